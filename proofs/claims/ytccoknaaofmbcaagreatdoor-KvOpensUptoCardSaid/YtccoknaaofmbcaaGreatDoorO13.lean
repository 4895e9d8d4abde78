/- KvOpen2, KvMan2, KvTman, KvBegin, AppK, BatchBack, KvLoad, KvOpen3, CompM, PresM: merged. -/
import Derived.Test.YtccoknaaofmbcaaGreatDoorO12
import Derived.Test.YtccoknaaofmbcaaGreatDoorO3
import Derived.Test.YtccoknaaofmbcaaGreatDoorO2
import Derived.Test.YtccoknaaofmbcaaGreatDoorO8
import Derived.Test.YtccoknaaofmbcaaGreatDoorO1
import Derived.Test.YtccoknaaofmbcaaGreatDoorO7
import Derived.Test.YtccoknaaofmbcaaGreatDoorO6
import Derived.Test.YtccoknaaofmbcaaGreatDoorO5
import Derived.Test.YtccoknaaofmbcaaGreatDoorO9
import Derived.Test.YtccoknaaofmbcaaGreatDoorShelfC
import Derived.Lib.SlicesCompact
import Derived.Test.YtccoknaaofmbcaaGreatDoorO4
import Derived.Lib.AtoiAllCases
import Derived.Lib.Strings
set_option linter.unusedVariables false
set_option linter.unusedSimpArgs false
set_option maxRecDepth 100000
set_option maxHeartbeats 16000000
open Go.Lib (hid)
namespace Go.Proofs.YtccoknaaofmbcaaGreatDoor
section
open Go.RowKit Dkm Prm Km Wm
theorem kopen_mid (A:Option Addr)(n c:Nat)(d:Dk)(frm n0:Int)(s:Bm.Sta)(w:World)(a b:Addr)(hT:Kt w a b)(hd:Dsk w A n c d.fs)(hB:Bnd 2097152 d)
  (KB:Hid (∀ W,Q w W→Calls Tryz.prog 68 #[dkv A n c d.room d.fuse d.off] W fun e w'=>e=.returned (.tuple #[.int .i64 frm,.int .i64 n0,.nilIface])∧Q W w'))
  (KL:Hid (∀ W,Q w W→Calls Tryz.prog 69 #[dkv A n c d.room d.fuse d.off,.int .i64 n0] W (RetL2 W s)))
  (hb1:s.data.length≤1073741824) (hb2:s.toks.length≤1073741824) (hrs:∀ r∈(recM d frm).2.1,r.length≤2048) :
  Calls Tryz.prog 29 #[dkv A n c d.room d.fuse d.off] w (RetO w (opnC frm n0 s (recM d frm))):=by
 have HT:=hid hT
 have KR:=hid (fun W (hT:Tab W) (hd:Dsk W A n c d.fs)=>recover_any frm A n c d W hT hd hB)
 have HB:=hid (And.intro hb1 hb2)
 have hlen:=recM_tot hB.sum frm
 generalize recM d frm=r at KR hlen hrs ⊢
 obtain⟨d2,rs,seg,er⟩:=r
 obtain⟨l2,room2,fuse2,off2⟩:=d2
 obtain⟨l,room,fuse,off⟩:=d
 have X0:Hid (Po w A n c ⟨l,room,fuse,off⟩ ((w.alloc (.cells #[.slice A n c,.int .i64 room,.int .i64 fuse,.bool off] 24)).alloc (.cells #[.slice none 0 0,.int .i64 0,.int .i64 0,.bool false,.int .i64 0,.int .i64 0,.int .i64 0,.slice none 0 0,.slice none 0 0,.bool false] 32))):=hid (Po.new hd)
 simp only at KR hlen hrs KB KL
 have HL:=hid (And.intro hlen hrs)
 clear hT hd hB hb1 hb2 hlen hrs
 by_cases he:er=0
 · subst he
   rw[show opnC frm n0 s (⟨l2,room2,fuse2,off2⟩,rs,seg,0)=endM frm n0 (⟨l2,room2,fuse2,off2⟩,rs,seg,0) (repM s rs) by unfold opnC;rw[if_neg (by simp)]]
   have KP:=hid (fun (L:Option Addr) (ln lc:Nat) (B:Option Addr) (bn bc:Nat) (C:Option Addr) (cn cc:Nat) (W:World) (hS:Sen W a b) (hB:In_ pairK W B bn bc s.data) (hC:In_ pairK W C cn cc s.toks) (hL:Strs W L ln rs)=>kreplay_any rs L ln lc B bn bc C cn cc s W a b hS hB hC hL (by have:=hL.len;have:=HL.out.1.1;omega) HL.out.2 (by have:=HL.out.1.2;have:=HB.out.1;omega) (by have:=hL.len;have:=HL.out.1.1;have:=HB.out.2;omega))
   generalize repM s rs=R at KP ⊢
   go_enter Tryz.func29,Tryz.ntmps29
   go_upto_region 1 with (fail)
   generalize ((w.alloc (.cells #[.slice A n c,.int .i64 room,.int .i64 fuse,.bool off] 24)).alloc (.cells #[.slice none 0 0,.int .i64 0,.int .i64 0,.bool false,.int .i64 0,.int .i64 0,.int .i64 0,.slice none 0 0,.slice none 0 0,.bool false] 32))=W at X0 ⊢
   obtain⟨⟨e0,e1,e2,e3⟩,f0,f1,f2,f3⟩:=X0.out.db.get4
   go_wp2_with fail
   refine(KB.out _ X0.out.q).mono ?_
   rintro e w1 ⟨rfl,q1⟩
   have X1:=hid (X0.out.step q1)
   clear q1 X0 e0 e1 e2 e3 f0 f1 f2 f3
   obtain⟨⟨e0,e1,e2,e3⟩,f0,f1,f2,f3⟩:=X1.out.db.get4
   go_wp2_with fail
   refine(KL.out _ X1.out.q).mono ?_
   rintro e w2 ⟨B,bn,bc,C,cn,cc,rfl,iB,iC,q2⟩
   have X2:=hid (Ps.new (X1.out.step q2) iB iC)
   clear q2 iB iC X1 e0 e1 e2 e3 f0 f1 f2 f3
   go_upto_region 7 with (fail)
   generalize w2.alloc (.cells #[.slice B bn bc,.slice C cn cc] 30)=W2 at X2 ⊢
   obtain⟨⟨e0,e1,e2,e3⟩,f0,f1,f2,f3⟩:=X2.out.po.db.get4
   go_wp2_with fail
   refine(KR.out _ (HT.out.tab.q X2.out.po.q) X2.out.po.dsk).mono ?_
   rintro e w3 ⟨A2,n2,c2,L,ln,lc,rfl,hd2,hf2,hl2,q3⟩
   have V0:=hid (X2.out.step q3)
   have V:=hid (V0.out.disk (d':=⟨l2,room2,fuse2,off2⟩) hd2)
   have HS2:=hid ((hl2.set4 (b:=w.heap.size) (by have:=X2.out.po.l;omega) (.slice A2 n2 c2) (.int .i64 room2) (.int .i64 fuse2) (.bool off2)).strs)
   clear q3 X2 hd2 hf2 hl2 e0 e1 e2 e3 f0 f1 f2 f3
   obtain⟨⟨e0,e1,e2,e3⟩,f0,f1,f2,f3⟩:=V0.out.po.db.get4
   go_upto_region 8 with (fail)
   generalize ((((w3.setCell ⟨w.heap.size,0,none⟩ (.slice A2 n2 c2)).setCell ⟨w.heap.size,1,none⟩ (.int .i64 room2)).setCell ⟨w.heap.size,2,none⟩ (.int .i64 fuse2)).setCell ⟨w.heap.size,3,none⟩ (.bool off2))=W3 at V HS2 ⊢
   clear e0 e1 e2 e3 f0 f1 f2 f3 V0
   obtain⟨⟨s0,s1⟩,t0,t1⟩:=V.out.sb.get2
   go_wp2_with fail
   refine(KP.out L ln lc B bn bc C cn cc _ (HT.out.sen.q V.out.po.q) V.out.data V.out.toks HS2.out).mono ?_
   rintro e w4 ⟨B4,bn4,bc4,C4,cn4,cc4,s4,v,rfl,iB,iC,q4,hv⟩
   have U0:=hid (V.out.step q4)
   have U:=hid (U0.out.set iB iC)
   have HV:=hid hv
   clear q4 V HS2 hv iB iC s0 s1 t0 t1
   obtain⟨⟨s0,s1⟩,t0,t1⟩:=U0.out.sb.get2
   go_upto_region 11 with (fail)
   generalize ((w4.setCell ⟨w2.heap.size,0,none⟩ (.slice B4 bn4 bc4)).setCell ⟨w2.heap.size,1,none⟩ (.slice C4 cn4 cc4))=W4 at U ⊢
   clear s0 s1 t0 t1 U0
   have F0:=U.out.po.fin (p:=⟨A2,n2,c2,B4,bn4,bc4,C4,cn4,cc4⟩) (x:=⟨⟨l2,room2,fuse2,off2⟩,frm,seg,n0,s4,false⟩) ⟨U.out.po.dsk,U.out.data,U.out.toks⟩
   dsimp only[us10,stk] at F0
   have F:=hid F0
   obtain⟨⟨e0,e1,e2,e3⟩,f0,f1,f2,f3⟩:=U.out.po.db.get4
   obtain⟨⟨s0,s1⟩,t0,t1⟩:=U.out.sb.get2
   obtain⟨g0,g1,g2,g3,g4,g5,g6,g7,g8,g9⟩:=kfree U.out.po.res
   obtain⟨i0,i1,i2,i3,i4,i5,i6,i7,i8,i9⟩:=kget U.out.po.res
   clear U F0
   go_wp2
   obtain⟨r0,r1,r2,r3,r4,r5,r6,r7,r8,r9⟩:=kget F.out.1
   refine bodyPost_ret (v:=.tuple #[kvV ⟨A2,n2,c2,B4,bn4,bc4,C4,cn4,cc4⟩ ⟨⟨l2,room2,fuse2,off2⟩,frm,seg,n0,s4,false⟩,v]) (by simp[results,Tryz.results29,go_sem,r0,r1,r2,r3,r4,r5,r6,r7,r8,r9]) rfl ?_
   rcases HV.out with ⟨hR,rfl⟩ | ⟨hR,hE⟩
   · rw[hR]
     exact⟨_,_,.nilIface,rfl,F.out.2.1,F.out.2.2,.inl ⟨rfl,rfl⟩,fun _=>rfl⟩
   · rw[hR]
     exact⟨_,_,v,rfl,F.out.2.1,F.out.2.2,hE,fun h=>absurd (show (3:Int)=0 from h) (by decide)⟩
 · rw[show opnC frm n0 s (⟨l2,room2,fuse2,off2⟩,rs,seg,er)=(ks0,er) by unfold opnC;rw[if_pos he]]
   have KW:Hid (∀ W,Q w W→Calls Tryz.prog 71 #[.int .i64 er] W fun ev w'=>ev=.returned (errV a b er)∧Q W w'):=hid (fun W q=>(kwrong_any er a b W (HT.out.q q).sen).mono fun ev w' h=>⟨h.1,by rw[h.2];exact Q.refl _⟩)
   go_enter Tryz.func29,Tryz.ntmps29
   go_upto_region 1 with (fail)
   generalize ((w.alloc (.cells #[.slice A n c,.int .i64 room,.int .i64 fuse,.bool off] 24)).alloc (.cells #[.slice none 0 0,.int .i64 0,.int .i64 0,.bool false,.int .i64 0,.int .i64 0,.int .i64 0,.slice none 0 0,.slice none 0 0,.bool false] 32))=W at X0 ⊢
   obtain⟨⟨e0,e1,e2,e3⟩,f0,f1,f2,f3⟩:=X0.out.db.get4
   go_wp2_with fail
   refine(KB.out _ X0.out.q).mono ?_
   rintro e w1 ⟨rfl,q1⟩
   have X1:=hid (X0.out.step q1)
   clear q1 X0 e0 e1 e2 e3 f0 f1 f2 f3
   obtain⟨⟨e0,e1,e2,e3⟩,f0,f1,f2,f3⟩:=X1.out.db.get4
   go_wp2_with fail
   refine(KL.out _ X1.out.q).mono ?_
   rintro e w2 ⟨B,bn,bc,C,cn,cc,rfl,iB,iC,q2⟩
   have X2:=hid (Ps.new (X1.out.step q2) iB iC)
   clear q2 iB iC X1 e0 e1 e2 e3 f0 f1 f2 f3
   go_upto_region 7 with (fail)
   generalize w2.alloc (.cells #[.slice B bn bc,.slice C cn cc] 30)=W2 at X2 ⊢
   obtain⟨⟨e0,e1,e2,e3⟩,f0,f1,f2,f3⟩:=X2.out.po.db.get4
   go_wp2_with fail
   refine(KR.out _ (HT.out.tab.q X2.out.po.q) X2.out.po.dsk).mono ?_
   rintro e w3 ⟨A2,n2,c2,L,ln,lc,rfl,hd2,hf2,hl2,q3⟩
   have V0:=hid (X2.out.step q3)
   have V:=hid (V0.out.disk (d':=⟨l2,room2,fuse2,off2⟩) hd2)
   clear q3 X2 hd2 hf2 hl2 e0 e1 e2 e3 f0 f1 f2 f3
   obtain⟨⟨e0,e1,e2,e3⟩,f0,f1,f2,f3⟩:=V0.out.po.db.get4
   go_upto_region 8 with (fail)
   generalize ((((w3.setCell ⟨w.heap.size,0,none⟩ (.slice A2 n2 c2)).setCell ⟨w.heap.size,1,none⟩ (.int .i64 room2)).setCell ⟨w.heap.size,2,none⟩ (.int .i64 fuse2)).setCell ⟨w.heap.size,3,none⟩ (.bool off2))=W3 at V ⊢
   clear e0 e1 e2 e3 f0 f1 f2 f3 V0
   go_wp2_with fail
   refine(KW.out _ V.out.po.q).mono ?_
   rintro e w4 ⟨rfl,q4⟩
   have U:=hid (V.out.po.step q4)
   clear q4 V
   have F0:=U.out.fin (p:=p0) (x:=ks0) (kr0 _)
   dsimp only[us10,stk,p0,ks0] at F0
   have F:=hid F0
   obtain⟨g0,g1,g2,g3,g4,g5,g6,g7,g8,g9⟩:=kfree U.out.res
   obtain⟨i0,i1,i2,i3,i4,i5,i6,i7,i8,i9⟩:=kget U.out.res
   clear U F0
   go_wp2
   obtain⟨r0,r1,r2,r3,r4,r5,r6,r7,r8,r9⟩:=kget F.out.1
   refine bodyPost_ret (v:=.tuple #[kvV p0 ks0,errV a b er]) (by simp[results,Tryz.results29,go_sem,r0,r1,r2,r3,r4,r5,r6,r7,r8,r9,p0,ks0]) rfl ?_
   exact⟨_,_,_,rfl,F.out.2.1,F.out.2.2,ev_wrong a b er,fun h=>absurd h he⟩
theorem kOpen_of (A:Option Addr)(n c:Nat)(d:Dk)(y:Ks×Int)(w:World)(hT:ErrT w)(hd:Dsk w A n c d.fs)(hz:y.2≠0→y.1=ks0)
  (KO:Hid (∀ W,Q w W→Calls Tryz.prog 29 #[dkv A n c d.room d.fuse d.off] W (RetO W y))) :
  Calls Tryz.prog 7 #[dkv A n c d.room d.fuse d.off] w (RetK w y.1 [.int .i64 y.2]):=by
 have HT:=hid hT
 have HZ:=hid hz
 obtain⟨l,room,fuse,off⟩:=d
 have X0:Hid (Po w A n c ⟨l,room,fuse,off⟩ ((w.alloc (.cells #[.slice A n c,.int .i64 room,.int .i64 fuse,.bool off] 24)).alloc (.cells #[.slice none 0 0,.int .i64 0,.int .i64 0,.bool false,.int .i64 0,.int .i64 0,.int .i64 0,.slice none 0 0,.slice none 0 0,.bool false] 32))):=hid (Po.new hd)
 obtain⟨y,er⟩:=y
 simp only at KO hz ⊢
 clear hT hd hz
 go_enter Tryz.func7,Tryz.ntmps7
 go_upto_region 1 with (fail)
 generalize ((w.alloc (.cells #[.slice A n c,.int .i64 room,.int .i64 fuse,.bool off] 24)).alloc (.cells #[.slice none 0 0,.int .i64 0,.int .i64 0,.bool false,.int .i64 0,.int .i64 0,.int .i64 0,.slice none 0 0,.slice none 0 0,.bool false] 32))=W at X0 ⊢
 obtain⟨⟨e0,e1,e2,e3⟩,f0,f1,f2,f3⟩:=X0.out.db.get4
 go_wp2_with fail
 refine(KO.out _ X0.out.q).mono ?_
 rintro e w1 ⟨p,x,v,rfl,hk,q1,hv,hx⟩
 have X1:=hid (X0.out.step q1)
 have HK:=hid hk
 have HX:=hid hx
 have HV:=hid hv
 clear q1 X0 e0 e1 e2 e3 f0 f1 f2 f3 hk hx hv
 obtain⟨A2,n2,c2,B2,bn2,bc2,C2,cn2,cc2⟩:=p
 obtain⟨⟨l2,room2,fuse2,off2⟩,frm2,seg2,run2,s2,down2⟩:=x
 have Y:Hid (Kb (w1.alloc (.cells #[.slice A2 n2 c2,.int .i64 room2,.int .i64 fuse2,.bool off2,.int .i64 frm2,.int .i64 seg2,.int .i64 run2,.slice B2 bn2 bc2,.slice C2 cn2 cc2,.bool down2] 32)) w1.heap.size ⟨A2,n2,c2,B2,bn2,bc2,C2,cn2,cc2⟩ ⟨⟨l2,room2,fuse2,off2⟩,frm2,seg2,run2,s2,down2⟩):=hid (Kb.new HK.out)
 have X2:Hid (Po w A n c ⟨l,room,fuse,off⟩ (w1.alloc (.cells #[.slice A2 n2 c2,.int .i64 room2,.int .i64 fuse2,.bool off2,.int .i64 frm2,.int .i64 seg2,.int .i64 run2,.slice B2 bn2 bc2,.slice C2 cn2 cc2,.bool down2] 32))):=hid (X1.out.step ((Q.refl w1).alloc _))
 rcases HV.out with ⟨rfl,h0⟩ | ⟨⟨T,u,rfl⟩,h0⟩
 · have h0:er=0:=h0
   subst h0
   go_upto_region 2 with (fail)
   generalize (w1.alloc (.cells #[.slice A2 n2 c2,.int .i64 room2,.int .i64 fuse2,.bool off2,.int .i64 frm2,.int .i64 seg2,.int .i64 run2,.slice B2 bn2 bc2,.slice C2 cn2 cc2,.bool down2] 32))=W1 at X2 Y ⊢
   have F0:=X2.out.fin (p:=⟨A2,n2,c2,B2,bn2,bc2,C2,cn2,cc2⟩) (x:=⟨⟨l2,room2,fuse2,off2⟩,frm2,seg2,run2,s2,down2⟩) Y.out.is
   dsimp only[us10,stk] at F0
   have F:=hid F0
   obtain⟨e0,e1,e2,e3,e4,e5,e6,e7,e8,e9⟩:=kget Y.out.box
   obtain⟨g0,g1,g2,g3,g4,g5,g6,g7,g8,g9⟩:=kfree X2.out.res
   obtain⟨i0,i1,i2,i3,i4,i5,i6,i7,i8,i9⟩:=kget X2.out.res
   clear F0 X1
   go_wp2
   obtain⟨r0,r1,r2,r3,r4,r5,r6,r7,r8,r9⟩:=kget F.out.1
   refine bodyPost_ret (v:=.tuple #[kvV ⟨A2,n2,c2,B2,bn2,bc2,C2,cn2,cc2⟩ ⟨⟨l2,room2,fuse2,off2⟩,frm2,seg2,run2,s2,down2⟩,.int .i64 0]) (by simp[results,Tryz.results7,go_sem,r0,r1,r2,r3,r4,r5,r6,r7,r8,r9]) rfl ?_
   rw[show y=_ from (HX.out (by first | rfl | trivial)).symm]
   exact⟨_,rfl,F.out.2.1,F.out.2.2⟩
 · have KN:=hid (fun W (q:Q w W)=>knum_any (fltW T u er) er W (.inr ⟨T,u,rfl⟩) (HT.out.q q))
   have hy:y=ks0:=HZ.out h0
   subst hy
   go_upto_region 2 with (fail)
   generalize (w1.alloc (.cells #[.slice A2 n2 c2,.int .i64 room2,.int .i64 fuse2,.bool off2,.int .i64 frm2,.int .i64 seg2,.int .i64 run2,.slice B2 bn2 bc2,.slice C2 cn2 cc2,.bool down2] 32))=W1 at X2 Y ⊢
   clear X1 Y
   go_wp2_with fail
   refine(KN.out _ X2.out.q).mono ?_
   rintro e w2 ⟨rfl,q2⟩
   have U:=hid (X2.out.step q2)
   clear q2 X2
   have F0:=U.out.fin (p:=p0) (x:=ks0) (kr0 _)
   dsimp only[us10,stk,p0,ks0] at F0
   have F:=hid F0
   obtain⟨g0,g1,g2,g3,g4,g5,g6,g7,g8,g9⟩:=kfree U.out.res
   obtain⟨i0,i1,i2,i3,i4,i5,i6,i7,i8,i9⟩:=kget U.out.res
   clear U F0
   go_wp2
   obtain⟨r0,r1,r2,r3,r4,r5,r6,r7,r8,r9⟩:=kget F.out.1
   refine bodyPost_ret (v:=.tuple #[kvV p0 ks0,.int .i64 er]) (by simp[results,Tryz.results7,go_sem,r0,r1,r2,r3,r4,r5,r6,r7,r8,r9,p0,ks0]) rfl ?_
   exact⟨p0,rfl,F.out.2.1,F.out.2.2⟩
theorem openM_no {d:Dk}(hm:(redd mB d.fs).2≠0):openM d=opnC 1 0 ⟨[],[]⟩ (recM d 1):=by
 have hb:begM d.fs=(1,0,0):=by unfold begM;rw[if_pos hm]
 unfold openM opnA
 rw[hb]
 simp only[ne_eq,not_true_eq_false,if_false]
 unfold opnB loadS
 simp only[if_true,ne_eq,not_true_eq_false,if_false]
theorem opnC_bad (frm run:Int)(s:Bm.Sta)(r:Dk×List (List UInt8)×Int×Int):(opnC frm run s r).2≠0→(opnC frm run s r).1=ks0:=by
 unfold opnC
 split
 · intro _;rfl
 · unfold endM
   split
   · intro _;rfl
   · intro h;exact absurd rfl h
theorem recF_le:∀ (n:Nat) (d:Dk) (frm seg:Int) (rs:List (List UInt8)) (last:Int),(∀ r∈rs,r.length≤2048)→∀ r∈(recF n d frm seg rs last).2.1,r.length≤2048
 | 0,_,_,_,_,_,h=>h
 | n + 1,d,frm,seg,rs,last,h=>by
   have hs:∀ l:List UInt8,∀ r∈rs++(scn l).1,r.length≤2048:=fun l r hr=>by
    rcases List.mem_append.1 hr with hr | hr
    · exact h r hr
    · exact(scd l).le r hr
   unfold recF
   split
   · exact h
   · split
     · exact h
     · split
       · exact recF_le n d frm (seg+1) _ seg (hs _)
       · split
         · intro r hr;cases hr
         · exact hs _
theorem recM_le (d:Dk)(frm:Int):∀ r∈(recM d frm).2.1,r.length≤2048:=by
 unfold recM
 split
 · intro r hr;cases hr
 · exact recF_le _ _ _ _ _ _ (fun r hr=>by cases hr)
theorem kOpen_no (A:Option Addr)(n c:Nat)(d:Dk)(w:World)(a b:Addr)(hT:Kt w a b)(hd:Dsk w A n c d.fs)(hB:Bnd 2097152 d)(hm:(redd mB d.fs).2≠0)(hlen:(recM d 1).2.1.length≤1073741824) :
  Calls Tryz.prog 7 #[dkv A n c d.room d.fuse d.off] w (RetK w (openM d).1 [.int .i64 (openM d).2]):=by
 rw[openM_no hm]
 refine kOpen_of A n c d _ w hT.typ hd (opnC_bad _ _ _ _) (hid fun W q=>?_)
 exact kopen_mid A n c d 1 0 ⟨[],[]⟩ W a b (hT.q q) (hd.q q) hB (hid fun W2 q2=>kbegin_no A n c d W2 ((hd.q q).q q2) (mx21 hB) hm) (hid fun W2 q2=>kload_zero A n c d W2) (Nat.zero_le _) (Nat.zero_le _) (recM_le _ _)
theorem kCrash_of (p:Kp)(x:Ks)(K:Option Addr)(kn kc:Nat)(ks:List Int)(y:Ks×Int)(w:World)(hk:Kr w p x)(hI:Ints w K kn ks)(hkn:kn≤maxLen)(hs:∀ f∈x.d.fs,f.sf.size+f.wt.size≤maxLen)
  (KO:Hid (∀ A n c W,Q w W→Dsk W A n c (crs x.d ks).fs→Calls Tryz.prog 7 #[dkv A n c (crs x.d ks).room (crs x.d ks).fuse (crs x.d ks).off] W (RetK W y.1 [.int .i64 y.2]))) :
  Calls Tryz.prog 21 #[kvV p x,.slice K kn kc] w (RetK w y.1 [.int .i64 y.2]):=by
 have KC:=hid (fun W (h1:Dsk W p.A p.n p.c x.d.fs) (h2:Ints W K kn ks)=>crash_any p.A p.n p.c x.d.room x.d.fuse x.d.off K kn kc ks x.d.fs W h1 h2 hkn hs)
 have hfl:x.d.fs.length=p.n:=hk.dsk.len
 have hcl:(crs x.d ks).fs.length=x.d.fs.length:=crs_len _ _
 have hfew:(crs x.d ks).fs.length*48≤140737488355328:=by rw[hcl,hfl];exact hk.dsk.few
 have HI:=hid hI
 obtain⟨A,n,c,B,bn,bc,C,cn,cc⟩:=p
 obtain⟨⟨l,room,fuse,off⟩,frm,seg,run,s,down⟩:=x
 obtain⟨y,er⟩:=y
 have X:Hid (Kc w (w.heap.size+1) ⟨A,n,c,B,bn,bc,C,cn,cc⟩ ⟨⟨l,room,fuse,off⟩,frm,seg,run,s,down⟩ ((w.alloc (.cells #[.slice A n c,.int .i64 room,.int .i64 fuse,.bool off,.int .i64 frm,.int .i64 seg,.int .i64 run,.slice B bn bc,.slice C cn cc,.bool down] 32)).alloc (.cells #[.slice none 0 0,.int .i64 0,.int .i64 0,.bool false,.int .i64 0,.int .i64 0,.int .i64 0,.slice none 0 0,.slice none 0 0,.bool false] 32))):=hid (Kc.two hk)
 simp only at KC KO hfew
 clear hk hI hs hfl hcl
 generalize crs ⟨l,room,fuse,off⟩ ks=d2 at KC KO hfew
 obtain⟨l2,room2,fuse2,off2⟩:=d2
 simp only at KC KO hfew
 have HF:=hid hfew
 clear hfew
 go_enter Tryz.func21,Tryz.ntmps21
 go_upto_region 1 with (fail)
 generalize ((w.alloc (.cells #[.slice A n c,.int .i64 room,.int .i64 fuse,.bool off,.int .i64 frm,.int .i64 seg,.int .i64 run,.slice B bn bc,.slice C cn cc,.bool down] 32)).alloc (.cells #[.slice none 0 0,.int .i64 0,.int .i64 0,.bool false,.int .i64 0,.int .i64 0,.int .i64 0,.slice none 0 0,.slice none 0 0,.bool false] 32))=W at X ⊢
 obtain⟨e0,e1,e2,e3,e4,e5,e6,e7,e8,e9⟩:=kget X.out.kb.box
 go_wp2_with fail
 refine(KC.out _ X.out.kb.is.dsk (HI.out.q X.out.q)).mono ?_
 rintro e w1 ⟨A1,n1,c1,rfl,o1,q1⟩
 have X1:=hid (X.out.step q1)
 have hd1:Dsk w1 A1 n1 c1 l2:=o1.dsk (by have:=o1.len;have:=HF.out;simp only at *;omega)
 have HD:=hid hd1
 clear hd1 o1 q1 X e0 e1 e2 e3 e4 e5 e6 e7 e8 e9
 go_wp2_with fail
 refine(KO.out _ _ _ _ X1.out.q HD.out).mono ?_
 rintro e w2 ⟨p2,rfl,k2,q2⟩
 have X2:=hid (X1.out.step q2)
 have K2:=hid k2
 clear k2 q2 X1
 obtain⟨A2,n2,c2,B2,bn2,bc2,C2,cn2,cc2⟩:=p2
 obtain⟨⟨l3,room3,fuse3,off3⟩,frm3,seg3,run3,s3,down3⟩:=y
 have F0:=X2.out.fin K2.out [.int .i64 er]
 have R0:=X2.out.boxR ⟨A2,n2,c2,B2,bn2,bc2,C2,cn2,cc2⟩ ⟨⟨l3,room3,fuse3,off3⟩,frm3,seg3,run3,s3,down3⟩
 dsimp only[us10,stk] at F0 R0
 have F:=hid F0
 have R:=hid R0
 obtain⟨g0,g1,g2,g3,g4,g5,g6,g7,g8,g9⟩:=kfree X2.out.res
 obtain⟨i0,i1,i2,i3,i4,i5,i6,i7,i8,i9⟩:=kget X2.out.res
 clear F0 R0 X2
 go_wp2
 obtain⟨r0,r1,r2,r3,r4,r5,r6,r7,r8,r9⟩:=kget R.out
 refine bodyPost_ret (v:=.tuple #[kvV ⟨A2,n2,c2,B2,bn2,bc2,C2,cn2,cc2⟩ ⟨⟨l3,room3,fuse3,off3⟩,frm3,seg3,run3,s3,down3⟩,.int .i64 er]) (by simp[results,Tryz.results21,go_sem,r0,r1,r2,r3,r4,r5,r6,r7,r8,r9]) rfl ?_
 exact F.out
end
section
open Go.RowKit Dkm Prm Km Wm
theorem toList_arr (l:List UInt8):(⟨l.toArray⟩:ByteArray).data.toList=l:=rfl
theorem size_arr (l:List UInt8):(⟨l.toArray⟩:ByteArray).size=l.length:=by show l.toArray.size=_;simp
theorem takeMan_any (s:ByteArray)(w:World)(hs:s.size≤maxLen) :
  Calls Tryz.prog 10 #[.string s] w fun e w'=>e=.returned (.tuple #[.int .i64 (tman s.data.toList).1,.int .i64 (tman s.data.toList).2.1,.int .i64 (tman s.data.toList).2.2])∧Q w w':=by
 have hl:s.data.toList.length=s.size:=Rn.size_data s
 have hs':s.size≤9223372036854775807:=by unfold maxLen at hs;omega
 have KO:=hid (fun W=>sopen_any s (s.size:Int) W hs (by omega) (by omega))
 have h1:=(topen_len s.data.toList (s.size:Int)).1
 rw[show (s.size:Int)=((s.data.toList.length:Nat):Int) by rw[hl]] at KO h1
 have hA:numA s.data.toList=(Dm.tnum (topen s.data.toList s.data.toList.length).1).1:=rfl
 have hB:numB s.data.toList=(Dm.tnum (Dm.tnum (topen s.data.toList s.data.toList.length).1).2.1).1:=rfl
 have hM:tman s.data.toList=if 1≤numA s.data.toList∧numA s.data.toList≤1000000∧numB s.data.toList≤1000000∧s.data.toList=manL (numA s.data.toList:Int) (numB s.data.toList:Int) then ((numA s.data.toList:Int),(numB s.data.toList:Int),0) else (0,0,3):=rfl
 generalize tman s.data.toList=R at hM ⊢
 have hz:=numA_le s.data.toList
 have hz2:=numB_le s.data.toList
 generalize numA s.data.toList=av at hA hM hz
 generalize numB s.data.toList=bv at hB hM hz2
 generalize topen s.data.toList s.data.toList.length=o at KO h1 hA hB
 obtain⟨o,o2,oe⟩:=o
 simp only at h1 hA hB
 have KA:=hid (fun W=>takeNum_any ⟨o.toArray⟩ W (by rw[size_arr];unfold maxLen;omega))
 have h2:=Dm.tnum_len o
 simp only[toList_arr] at KA
 generalize Dm.tnum o=x at KA h2 hA hB
 obtain⟨xa,xr,xe⟩:=x
 simp only at h2 hA hB
 have KB:=hid (fun W=>takeNum_any ⟨xr.toArray⟩ W (by rw[size_arr];unfold maxLen;omega))
 simp only[toList_arr] at KB
 generalize Dm.tnum xr=y at KB hB
 obtain⟨ya,yr,ye⟩:=y
 simp only at hB
 subst hA hB
 rw[hl] at KO
 have hg:(s.data.toList=manL (av:Int) (bv:Int))↔s=manB (av:Int) (bv:Int):=by
  unfold manB
  constructor
  · intro e;rw[←e]
  · intro e
    have:=congrArg (fun z:ByteArray=>z.data.toList) e
    exact this
 have HM:=hid hM
 have KF:=hid (fun (h1:av≤1000000) (h2:bv≤1000000) W=>manifest_any (av:Int) (bv:Int) W (by omega) (by omega))
 have HG:=hid hg
 unfold Dm.maxU at hz hz2
 clear hM hg hl h1 h2 hs
 simp only[ttR,tnR] at KO KA KB
 generalize (⟨o.toArray⟩:ByteArray)=ob at KO KA
 generalize (⟨o2.toArray⟩:ByteArray)=o2b at KO
 generalize (⟨xr.toArray⟩:ByteArray)=rb at KA KB
 by_cases hn:1≤av∧av≤1000000∧bv≤1000000
 · obtain⟨n1,n2,n3⟩:=hn
   have KF:=hid (KF.out n2 n3)
   have m1:(1:Int)≤(av:Int):=by omega
   have m2:(av:Int)≤1000000:=by omega
   have m3:(bv:Int)≤1000000:=by omega
   have b1:decide ((1:Int)≤(av:Int))=true:=decide_eq_true m1
   have b2:decide ((av:Int)≤1000000)=true:=decide_eq_true m2
   have b3:decide ((bv:Int)≤1000000)=true:=decide_eq_true m3
   by_cases he:s=manB (av:Int) (bv:Int)
   · have HR:Hid (R=((av:Int),(bv:Int),0)):=hid (by rw[HM.out,if_pos ⟨n1,n2,n3,HG.out.2 he⟩])
     clear HM HG
     generalize manB (av:Int) (bv:Int)=mb at KF he
     subst he
     go_enter Tryz.func10,Tryz.ntmps10
     go_wp2_with fail
     refine(KO.out _).mono ?_
     rintro e w1 ⟨rfl,q1⟩
     go_wp2_with fail
     refine(KA.out _).mono ?_
     rintro e w2 ⟨rfl,q2⟩
     go_wp2_with fail
     refine(KB.out _).mono ?_
     rintro e w3 ⟨rfl,q3⟩
     go_wp2_with fail
     refine(KF.out _).mono ?_
     rintro e w4 ⟨rfl,q4⟩
     go_wp2
     refine bodyPost_ret (v:=.tuple #[.int .i64 (av:Int),.int .i64 (bv:Int),.int .i64 0]) (by simp[results,Tryz.results10,go_sem]) rfl ?_
     rw[HR.out]
     exact⟨rfl,((q1.trans q2).trans q3).trans q4⟩
   · have HR:Hid (R=(0,0,3)):=hid (by rw[HM.out,if_neg (fun h=>he (HG.out.1 h.2.2.2))])
     have hne:(s.toList == (manB (av:Int) (bv:Int)).toList)=false:=by rw[same_str];exact decide_eq_false he
     clear HM HG
     generalize manB (av:Int) (bv:Int)=mb at KF he hne
     go_enter Tryz.func10,Tryz.ntmps10
     go_wp2_with fail
     refine(KO.out _).mono ?_
     rintro e w1 ⟨rfl,q1⟩
     go_wp2_with fail
     refine(KA.out _).mono ?_
     rintro e w2 ⟨rfl,q2⟩
     go_wp2_with fail
     refine(KB.out _).mono ?_
     rintro e w3 ⟨rfl,q3⟩
     go_wp2_with fail
     refine(KF.out _).mono ?_
     rintro e w4 ⟨rfl,q4⟩
     go_wp2
     refine bodyPost_ret (v:=.tuple #[.int .i64 0,.int .i64 0,.int .i64 3]) (by simp[results,Tryz.results10,go_sem]) rfl ?_
     rw[HR.out]
     exact⟨rfl,((q1.trans q2).trans q3).trans q4⟩
 · have HR:Hid (R=(0,0,3)):=hid (by rw[HM.out,if_neg (fun h=>hn ⟨h.1,h.2.1,h.2.2.1⟩)])
   have hc:(decide ((1:Int)≤(av:Int))=false)∨(decide ((1:Int)≤(av:Int))=true∧decide ((av:Int)≤1000000)=false)∨(decide ((1:Int)≤(av:Int))=true∧decide ((av:Int)≤1000000)=true∧decide ((bv:Int)≤1000000)=false):=by
    simp only[decide_eq_false_iff_not,decide_eq_true_eq]
    omega
   clear HM HG KF hn
   rcases hc with h1 | ⟨h1,h2⟩ | ⟨h1,h2,h3⟩
   all_goals
     go_enter Tryz.func10,Tryz.ntmps10
     go_wp2_with fail
     refine(KO.out _).mono ?_
     rintro e w1 ⟨rfl,q1⟩
     go_wp2_with fail
     refine(KA.out _).mono ?_
     rintro e w2 ⟨rfl,q2⟩
     go_wp2_with fail
     refine(KB.out _).mono ?_
     rintro e w3 ⟨rfl,q3⟩
     go_wp2
     refine bodyPost_ret (v:=.tuple #[.int .i64 0,.int .i64 0,.int .i64 3]) (by simp[results,Tryz.results10,go_sem]) rfl ?_
     rw[HR.out]
     exact⟨rfl,(q1.trans q2).trans q3⟩
end
section
open Go.RowKit Dkm Prm Km Wm
namespace Km
def tmB (a:Nat)(y:Nat×List UInt8×Nat):Int×Int×Int:=if y.2.2≠0∨1000000<y.1∨y.2.1≠[] then (0,0,3) else ((a:Int),(y.1:Int),0)
def tmA (x:Nat×List UInt8×Nat):Int×Int×Int:=if x.2.2≠0∨x.1<1∨1000000<x.1 then (0,0,3) else tmB x.1 (Dm.tnum x.2.1)
def tmR (o:List UInt8×List UInt8×Nat):Int×Int×Int:=if o.2.2≠0∨o.2.1≠[] then (0,0,3) else tmA (Dm.tnum o.1)
theorem tmR_eq (s:List UInt8):tmR (topen s 65536)=tman s:=by
 by_cases h:1≤numA s∧numA s≤1000000∧numB s≤1000000∧s=manL (numA s:Int) (numB s:Int)
 · have ht:tman s=((numA s:Int),(numB s:Int),0):=by unfold tman;rw[if_pos h]
   rw[ht]
   obtain⟨h1,h2,h3,h4⟩:=h
   generalize numA s=a at h1 h2 h4 ⊢
   generalize numB s=b at h3 h4 ⊢
   rw[h4,manL_open (a:Int) (b:Int) (by omega) (by omega) 65536 (by omega)]
   have e1:=Dm.tnum_num a (Dm.num b) (by unfold Dm.maxU;omega)
   have e2:=Dm.tnum_num b [] (by unfold Dm.maxU;omega)
   rw[List.append_nil] at e2
   have c1:((a:Int)).toNat=a:=by omega
   have c2:((b:Int)).toNat=b:=by omega
   rw[c1,c2]
   unfold tmR
   rw[if_neg (by simp)]
   simp only[e1]
   unfold tmA
   rw[if_neg (by simp;omega)]
   simp only[e2]
   unfold tmB
   rw[if_neg (by simp;omega)]
 · have ht:tman s=(0,0,3):=by unfold tman;rw[if_neg h]
   rw[ht]
   unfold tmR
   split
   · rfl
   rename_i c1
   simp only[not_or,ne_eq,Decidable.not_not] at c1
   unfold tmA
   split
   · rfl
   rename_i c2
   simp only[not_or,ne_eq,Decidable.not_not,Nat.not_lt] at c2
   unfold tmB
   split
   · rfl
   rename_i c3
   simp only[not_or,ne_eq,Decidable.not_not,Nat.not_lt] at c3
   exfalso
   obtain⟨i1,i2,i3⟩:=topen_err c1.1
   rw[c1.2,List.append_nil] at i1
   generalize (topen s 65536).1=t at i1 c2 c3
   have j1:=(Dm.tnum_inv (l:=t) (v:=(Dm.tnum t).1) (r:=(Dm.tnum t).2.1) (Prod.ext rfl (Prod.ext rfl c2.1))).1
   generalize Dm.tnum t=x at j1 c2 c3
   have k1:=(Dm.tnum_inv (l:=x.2.1) (v:=(Dm.tnum x.2.1).1) (r:=(Dm.tnum x.2.1).2.1) (Prod.ext rfl (Prod.ext rfl c3.1))).1
   rw[c3.2.2,List.append_nil] at k1
   generalize Dm.tnum x.2.1=y at k1 c3
   have d1:((x.1:Int)).toNat=x.1:=by omega
   have d2:((y.1:Int)).toNat=y.1:=by omega
   have hs:s=manL (x.1:Int) (y.1:Int):=by
    unfold manL
    rw[d1,d2,←k1,←j1]
    exact i1
   have hn:=manL_nums (x.1:Int) (y.1:Int) (by omega) (by omega) (by omega) (by omega)
   rw[←hs,d1,d2] at hn
   apply h
   rw[hn.1,hn.2]
   exact⟨c2.2.1,c2.2.2,c3.2.1,hs⟩
end Km
theorem refManifest_any (f r:Int)(w:World)(hf:f≤9223372036854775807)(hr:r≤9223372036854775807)(hf0:-9223372036854775808≤f)(hr0:-9223372036854775808≤r):Calls Tryz.prog 15 #[.int .i64 f,.int .i64 r] w fun e w'=>e=.returned (.string (manB f r))∧Q w w':=by
 have KF:=fun W=>refNum_any (max f 0) W (by omega) (by omega)
 have KR:=fun W=>refNum_any (max r 0) W (by omega) (by omega)
 have l1:=Dm.num_length (max f 0).toNat (by omega)
 have l2:=Dm.num_length (max r 0).toNat (by omega)
 have hm:manB f r=⟨(sld ((⟨(Dm.num (max f 0).toNat).toArray⟩:ByteArray)++⟨(Dm.num (max r 0).toNat).toArray⟩).data.toList).toArray⟩:=by
  unfold manB manL
  rw[show (max f 0).toNat=f.toNat by omega,show (max r 0).toNat=r.toNat by omega,app_lists]
 have hz1:(⟨(Dm.num (max f 0).toNat).toArray⟩:ByteArray).size≤100:=by show (Dm.num (max f 0).toNat).toArray.size≤100;simp;omega
 have hz2:(⟨(Dm.num (max r 0).toNat).toArray⟩:ByteArray).size≤100:=by show (Dm.num (max r 0).toNat).toArray.size≤100;simp;omega
 have HM:=hid hm
 clear hm l1 l2
 generalize (⟨(Dm.num (max f 0).toNat).toArray⟩:ByteArray)=x at KF HM hz1
 generalize (⟨(Dm.num (max r 0).toNat).toArray⟩:ByteArray)=y at KR HM hz2
 have c1:(f<0∧max f 0=0)∨(¬ f<0∧max f 0=f):=by omega
 have c2:(r<0∧max r 0=0)∨(¬ r<0∧max r 0=r):=by omega
 rcases c1 with ⟨c1,d1⟩ | ⟨c1,d1⟩<;>rcases c2 with ⟨c2,d2⟩ | ⟨c2,d2⟩
 all_goals
   rw[d1] at KF
   rw[d2] at KR
   have KF:=hid KF
   have KR:=hid KR
   clear d1 d2
   go_enter Tryz.func15,Tryz.ntmps15
   go_wp2_with fail
   refine(KF.out _).mono ?_
   rintro e w1 ⟨rfl,q1⟩
   have Q1:=hid q1
   clear q1
   go_wp2_with fail
   refine(KR.out _).mono ?_
   rintro e w2 ⟨rfl,q2⟩
   have Q2:=hid (Q1.out.trans q2)
   clear q2
   go_wp2_with fail
   refine(refSeal_any _ _ (by rw[ByteArray.size_append];omega)).mono ?_
   rintro e w3 ⟨rfl,q3⟩
   go_wp2
   go_ret
   exact⟨ret_str (by rw[HM.out,ByteArray.data_append,Array.toList_append]),Q2.out.trans q3⟩
def R3 (w:World)(x:Int×Int×Int)(e:Ending)(w':World):Prop:=e=.returned (.tuple #[.int .i64 x.1,.int .i64 x.2.1,.int .i64 x.2.2])∧Q w w'
theorem refTakeMan_any (s:ByteArray)(w:World)(hs:s.size≤maxLen) :
  Calls Tryz.prog 11 #[.string s] w (R3 w (tman s.data.toList)):=by
 have K1:=refOpen_any s 65536 w hs (by omega) (by omega)
 have hln:=topen_len s.data.toList 65536
 rw[Rn.size_data] at hln
 rw[←tmR_eq]
 generalize topen s.data.toList 65536=o at K1 hln ⊢
 obtain⟨b,r,e1⟩:=o
 obtain⟨BB,hB,hBs,hBl⟩:=bytes_of b
 obtain⟨RB,hR,hRs,hRl⟩:=bytes_of r
 unfold ttR at K1
 simp only at K1 hln
 rw[←hB,←hR] at K1
 generalize hT:tmR (b,r,e1)=T
 unfold tmR at hT
 simp only at hT
 have HK:=hid K1
 have HBz:BB.size≤maxLen:=by rw[hBs];omega
 clear K1 hln hB hR
 by_cases c1:e1=0
 · subst c1
   by_cases c2:r=[]
   · rw [if_neg (by simpa using c2)] at hT
     have hre:=str_empty hRl c2
     subst hre
     have K2:=fun W=>refTakeNum_any BB W HBz
     have h2:=Dm.tnum_len b
     have m2:=Dm.tnum_le b
     rw[hBl] at K2
     generalize Dm.tnum b=x at K2 hT h2 m2
     obtain⟨v,r0,e2⟩:=x
     obtain⟨R0,hR0,hR0s,hR0l⟩:=bytes_of r0
     unfold tnR at K2
     simp only at K2 h2 m2
     rw[←hR0] at K2
     have HK2:=hid K2
     have H0z:R0.size≤maxLen:=by rw[hR0s];omega
     unfold tmA at hT
     simp only at hT
     unfold Dm.maxU at m2
     clear K2 hR0 hBs hBl hRs hRl c2 h2
     by_cases n1:e2=0
     · subst n1
       by_cases n2:v<1
       · rw[if_pos (by simp;omega)] at hT
         have HT:=hid hT
         clear hT HBz H0z hR0s hR0l
         have hv:v=0:=by omega
         subst hv
         clear n2
         go_enter Tryz.func11,Tryz.ntmps11
         go_wp2_with fail
         refine HK.out.mono ?_
         rintro e w1 ⟨rfl,q1⟩
         go_wp2_with fail
         refine(HK2.out _).mono ?_
         rintro e w2 ⟨rfl,q2⟩
         go_wp2
         refine bodyPost_ret (v:=.tuple #[.int .i64 0,.int .i64 0,.int .i64 3]) (by simp[results,Tryz.results11,go_sem]) rfl ?_
         rw[←HT.out]
         exact⟨rfl,q1.trans q2⟩
       by_cases n3:1000000<v
       · rw[if_pos (by simp;omega)] at hT
         have HT:=hid hT
         have z1:¬ (v:Int)<1:=by omega
         have z2:(1000000:Int)<(v:Int):=by omega
         have z3:decide ((v:Int)<1)=false:=decide_eq_false z1
         have z4:decide ((1000000:Int)<(v:Int))=true:=decide_eq_true z2
         clear hT HBz H0z hR0s hR0l n2 n3
         go_enter Tryz.func11,Tryz.ntmps11
         go_wp2_with fail
         refine HK.out.mono ?_
         rintro e w1 ⟨rfl,q1⟩
         go_wp2_with fail
         refine(HK2.out _).mono ?_
         rintro e w2 ⟨rfl,q2⟩
         go_wp2
         refine bodyPost_ret (v:=.tuple #[.int .i64 0,.int .i64 0,.int .i64 3]) (by simp[results,Tryz.results11,go_sem]) rfl ?_
         rw[←HT.out]
         exact⟨rfl,q1.trans q2⟩
       rw[if_neg (by simp;omega)] at hT
       have K3:=fun W=>refTakeNum_any R0 W H0z
       have m3:=Dm.tnum_le r0
       rw[hR0l] at K3
       generalize Dm.tnum r0=y at K3 hT m3
       obtain⟨v3,r3,e3⟩:=y
       obtain⟨RC,hRC,hRCs,hRCl⟩:=bytes_of r3
       unfold tnR at K3
       simp only at K3 m3
       rw[←hRC] at K3
       have HK3:=hid K3
       unfold tmB at hT
       simp only at hT
       unfold Dm.maxU at m3
       have z1:¬ (v:Int)<1:=by omega
       have z2:¬ (1000000:Int)<(v:Int):=by omega
       have z3:decide ((v:Int)<1)=false:=decide_eq_false z1
       have z4:decide ((1000000:Int)<(v:Int))=false:=decide_eq_false z2
       clear K3 hRC HBz H0z hR0s hR0l
       by_cases p1:e3=0
       · subst p1
         by_cases p2:1000000<v3
         · rw[if_pos (by simp;omega)] at hT
           have HT:=hid hT
           have y2:(1000000:Int)<(v3:Int):=by omega
           have y4:decide ((1000000:Int)<(v3:Int))=true:=decide_eq_true y2
           clear hT hRCs hRCl p2 n2 n3
           go_enter Tryz.func11,Tryz.ntmps11
           go_wp2_with fail
           refine HK.out.mono ?_
           rintro e w1 ⟨rfl,q1⟩
           go_wp2_with fail
           refine(HK2.out _).mono ?_
           rintro e w2 ⟨rfl,q2⟩
           go_wp2_with fail
           refine(HK3.out _).mono ?_
           rintro e w3 ⟨rfl,q3⟩
           go_wp2
           refine bodyPost_ret (v:=.tuple #[.int .i64 0,.int .i64 0,.int .i64 3]) (by simp[results,Tryz.results11,go_sem]) rfl ?_
           rw[←HT.out]
           exact⟨rfl,(q1.trans q2).trans q3⟩
         have y2:¬ (1000000:Int)<(v3:Int):=by omega
         have y4:decide ((1000000:Int)<(v3:Int))=false:=decide_eq_false y2
         by_cases p3:r3=[]
         · rw[if_neg (by simp;exact⟨by omega,p3⟩)] at hT
           have HT:=hid hT
           have hre:=str_empty hRCl p3
           subst hre
           clear hT hRCs hRCl p2 p3 n2 n3
           go_enter Tryz.func11,Tryz.ntmps11
           go_wp2_with fail
           refine HK.out.mono ?_
           rintro e w1 ⟨rfl,q1⟩
           go_wp2_with fail
           refine(HK2.out _).mono ?_
           rintro e w2 ⟨rfl,q2⟩
           go_wp2_with fail
           refine(HK3.out _).mono ?_
           rintro e w3 ⟨rfl,q3⟩
           go_wp2
           refine bodyPost_ret (v:=.tuple #[.int .i64 (v:Int),.int .i64 (v3:Int),.int .i64 0]) (by simp[results,Tryz.results11,go_sem]) rfl ?_
           rw[←HT.out]
           exact⟨rfl,(q1.trans q2).trans q3⟩
         · rw[if_pos (by simp[p3])] at hT
           have HT:=hid hT
           have hsz0:0<RC.size:=by
            have:0<r3.length:=List.length_pos_iff.2 p3
            omega
           clear hT hRCs hRCl p2 p3 n2 n3
           go_enter Tryz.func11,Tryz.ntmps11
           go_wp2_with fail
           refine HK.out.mono ?_
           rintro e w1 ⟨rfl,q1⟩
           go_wp2_with fail
           refine(HK2.out _).mono ?_
           rintro e w2 ⟨rfl,q2⟩
           go_wp2_with fail
           refine(HK3.out _).mono ?_
           rintro e w3 ⟨rfl,q3⟩
           go_wp2
           refine bodyPost_ret (v:=.tuple #[.int .i64 0,.int .i64 0,.int .i64 3]) (by simp[results,Tryz.results11,go_sem]) rfl ?_
           rw[←HT.out]
           exact⟨rfl,(q1.trans q2).trans q3⟩
       · rw[if_pos (.inl p1)] at hT
         have HT:=hid hT
         have hne:((e3:Int) != 0)=true:=by simp;omega
         clear hT hRCs hRCl p1 n2 n3
         go_enter Tryz.func11,Tryz.ntmps11
         go_wp2_with fail
         refine HK.out.mono ?_
         rintro e w1 ⟨rfl,q1⟩
         go_wp2_with fail
         refine(HK2.out _).mono ?_
         rintro e w2 ⟨rfl,q2⟩
         go_wp2_with fail
         refine(HK3.out _).mono ?_
         rintro e w3 ⟨rfl,q3⟩
         go_wp2
         refine bodyPost_ret (v:=.tuple #[.int .i64 0,.int .i64 0,.int .i64 3]) (by simp[results,Tryz.results11,go_sem]) rfl ?_
         rw[←HT.out]
         exact⟨rfl,(q1.trans q2).trans q3⟩
     · rw[if_pos (.inl n1)] at hT
       have HT:=hid hT
       have hne:((e2:Int) != 0)=true:=by simp;omega
       clear hT HBz H0z hR0s hR0l n1
       go_enter Tryz.func11,Tryz.ntmps11
       go_wp2_with fail
       refine HK.out.mono ?_
       rintro e w1 ⟨rfl,q1⟩
       go_wp2_with fail
       refine(HK2.out _).mono ?_
       rintro e w2 ⟨rfl,q2⟩
       go_wp2
       refine bodyPost_ret (v:=.tuple #[.int .i64 0,.int .i64 0,.int .i64 3]) (by simp[results,Tryz.results11,go_sem]) rfl ?_
       rw[←HT.out]
       exact⟨rfl,q1.trans q2⟩
   · rw[if_pos (.inr c2)] at hT
     have HT:=hid hT
     have hsz0:0<RB.size:=by
      have:0<r.length:=List.length_pos_iff.2 c2
      omega
     clear hT c2 hRs hRl hBs hBl HBz
     go_enter Tryz.func11,Tryz.ntmps11
     go_wp2_with fail
     refine HK.out.mono ?_
     rintro e w1 ⟨rfl,q1⟩
     go_wp2
     refine bodyPost_ret (v:=.tuple #[.int .i64 0,.int .i64 0,.int .i64 3]) (by simp[results,Tryz.results11,go_sem]) rfl ?_
     rw[←HT.out]
     exact⟨rfl,q1⟩
 · rw[if_pos (.inl c1)] at hT
   have hne:((e1:Int) != 0)=true:=by simp;omega
   have HT:=hid hT
   clear hT c1 hRs hRl hBs hBl HBz
   go_enter Tryz.func11,Tryz.ntmps11
   go_wp2_with fail
   refine HK.out.mono ?_
   rintro e w1 ⟨rfl,q1⟩
   go_wp2
   refine bodyPost_ret (v:=.tuple #[.int .i64 0,.int .i64 0,.int .i64 3]) (by simp[results,Tryz.results11,go_sem]) rfl ?_
   rw[←HT.out]
   exact⟨rfl,q1⟩
end
section
open Go.RowKit Dkm Prm Km Wm
def RetBg (w:World)(r:Int×Int×Int)(e:Ending)(w':World):Prop:=
 ∃ v,e=.returned (.tuple #[.int .i64 r.1,.int .i64 r.2.1,v])∧Q w w'∧(r.2.2=0∧v=.nilIface∨r.2.2≠0∧Ev v 3)
theorem unf_zero (a b:Addr):unfV a b 0=.nilIface:=unf_nil.2 rfl
theorem kbegin_any (A:Option Addr)(n c:Nat)(d:Dk)(w:World)(a b:Addr)(hS:Sen w a b)(hd:Dsk w A n c d.fs)(hs:∀ f∈d.fs,f.sf.size+f.wt.size≤maxLen) :
  Calls Tryz.prog 68 #[dkv A n c d.room d.fuse d.off] w (RetBg w (begM d.fs)):=by
 by_cases hm:(redd mB d.fs).2≠0
 · rw[show begM d.fs=(1,0,0) by unfold begM;rw[if_pos hm]]
   exact(kbegin_no A n c d w hd hs hm).mono fun e w' h=>⟨.nilIface,h.1,h.2,.inl ⟨rfl,rfl⟩⟩
 · have hz:(redd mB d.fs).1.size≤maxLen:=redd_size mB d.fs hs
   have hb:begM d.fs=tman (redd mB d.fs).1.data.toList:=by unfold begM;rw[if_neg hm]
   have h0:(redd mB d.fs).2=0:=by simpa using hm
   have HR:=hid (fun W (h:Files W A n d.fs)=>read_any ⟨#[109]⟩ A n c d.room d.fuse d.off d.fs W h hd.max hs)
   rw[hb]
   change Hid (∀ W,Files W A n d.fs→Calls _ _ _ W fun e w'=>e=.returned (.tuple #[.string (redd mB d.fs).1,.int .i64 (redd mB d.fs).2])∧Q W w') at HR
   rw[h0] at HR
   generalize (redd mB d.fs).1=s at HR hz ⊢
   have KT:=hid (fun W=>takeMan_any s W hz)
   generalize tman s.data.toList=r at KT ⊢
   obtain⟨f,rn,er⟩:=r
   have HD:=hid hd
   have KU:=hid (fun W (q:Q w W)=>kunf_any er a b W (hS.q q))
   have HE:Hid (er=0∧unfV a b er=.nilIface∨er≠0∧Ev (unfV a b er) 3):=hid (by
    by_cases he:er=0
    · subst he;exact .inl ⟨rfl,unf_zero a b⟩
    · exact .inr ⟨he,ev_unf a b he⟩)
   generalize unfV a b er=v at KU HE
   simp only at KT
   clear hS hd hs hm hb h0 hz
   go_enter Tryz.func68,Tryz.ntmps68
   go_wp2_with fail
   refine(HR.out _ (HD.out.files.q ((Q.refl _).alloc _))).mono ?_
   rintro e w1 ⟨rfl,q1⟩
   have Q1:=hid (((Q.refl _).alloc _).trans q1)
   clear q1
   go_wp2_with fail
   refine(KT.out _).mono ?_
   rintro e w2 ⟨rfl,q2⟩
   have Q2:=hid (Q1.out.trans q2)
   clear q2
   go_wp2_with fail
   refine(KU.out _ Q2.out).mono ?_
   rintro e w3 ⟨rfl,rfl⟩
   go_wp2
   refine bodyPost_ret (v:=.tuple #[.int .i64 f,.int .i64 rn,v]) (by simp[results,Tryz.results68,go_sem]) rfl ?_
   exact⟨v,rfl,Q2.out,HE.out⟩
end
section
open Go.RowKit
variable {α:Type}
theorem run_appKG (K:Kind α)(w:World)(base:Nat)(A:Option Addr)(n c:Nat)(l:List α)(h:OwnK K w base A n c l)(A2:Option Addr)(m c2:Nat)(l2:List α)(h2:Lst K w A2 m l2)(hnil:A2=none→m=0∧c2=0)
  (hb:(n+m)*K.bs≤140737488355328) (hbase:base≤w.heap.size) (ty:TypeId) :
  ∃ A' c' w',(Builtin.append_ #[K.S,K.S] ty #[.slice A n c,.slice A2 m c2]).run Tryz.prog w=.ok (.slice A' (n+m) c') w'∧OwnK K w' base A' (n+m) c' (l++l2)∧w.grownBy w' (Value.slice A n c).ownBlock ∧
    ((Value.slice A' (n+m) c').ownBlock=(Value.slice A n c).ownBlock∨(Value.slice A' (n+m) c').ownBlock=some w.heap.size):=by
 have hmax:n+m≤maxLen:=by
  have:(n+m)*1≤(n+m)*K.bs:=Nat.mul_le_mul_left _ K.bpos
  unfold maxLen;omega
 obtain⟨A',c',w',h1,h3,h4,h5⟩:=run_appG (P:=Tryz.prog) (w:=w) base K.S ty K.T K.z K.k K.bs K.und K.info K.zc K.pos A n c (K.rows l) h A2 m c2 (K.rows l2) h2.1
   (fun j u hu=>by obtain⟨a,e,_,hc⟩:=h2.2 j u hu;exact⟨a,e,hc⟩) (K.rows_one l2) hnil hmax hb hbase
 rw[←K.rows_app] at h3
 exact⟨A',c',w',h1,h3,h4,h5⟩
theorem grown_below {K:Kind α}{w w':World}{base:Nat}{A:Option Addr}{n c:Nat}{l:List α}(h:OwnK K w base A n c l)(hg:w.grownBy w' (Value.slice A n c).ownBlock)(hbase:base≤w.heap.size):Below base w w':=
 below_grown hg hbase fun k hk=>by
  rcases h.parts with ⟨rfl,_⟩ | ⟨g,cur,rfl,hb,_⟩
  · cases hk
  · simp only[Value.ownBlock,Option.some.injEq] at hk;omega
theorem wpl_appKG (K:Kind α){w:World}{ops:Array Oper}{rest:List Oper}{o:Oper}{a:Act}{R:Exit→Act→World→Prop}(hgd:o.guard=none)(s x:Operand)(t:TypeId)(ht:t=K.S)
  (ho:o.op=.call { callee:=.builtin .append,args:=#[s,x],argTypes:=#[t,t] })
  (base:Nat) (A:Option Addr) (n c:Nat) (l:List α) (hs:a.eval s=.slice A n c) (h:OwnK K w base A n c l) (A2:Option Addr) (m c2:Nat) (l2:List α) (hx:a.eval x=.slice A2 m c2) (h2:Lst K w A2 m l2) (hnil:A2=none→m=0∧c2=0)
  (hb:(n+m)*K.bs≤140737488355328) (hbase:base≤w.heap.size)
  (hk:∀ A' c' w',OwnK K w' base A' (n+m) c' (l++l2)→w.grownBy w' (Value.slice A n c).ownBlock →
    ((Value.slice A' (n+m) c').ownBlock=(Value.slice A n c).ownBlock∨(Value.slice A' (n+m) c').ownBlock=some w.heap.size)→wpList Tryz.prog ops R rest (a.put o.dst (.slice A' (n+m) c')) w'):wpList Tryz.prog ops R (o :: rest) a w:=by
 subst ht
 refine wpList_plain hgd fun X hX=>?_
 obtain⟨A',c',w',hr,h3,h4,h5⟩:=run_appKG K w base A n c l h A2 m c2 l2 h2 hnil hb hbase o.type
 unfold Oper.wp execOp
 simp only[ho,resolve,invoke,builtin,Sem.run_bind,Sem.run_pure,Result.andThen_ok,List.map_toArray,List.map_cons,List.map_nil,hs,hx,hr]
 exact hX _ _ (hk A' c' w' h3 h4 h5)
theorem step_appKG (K:Kind α){ops:Array Oper}{o:Oper}{a:Act}{w:World}{X:Act→World→Prop}{R:Exit→Act→World→Prop}{E:Prop}(hgd:o.guard=none)(s x:Operand)(t:TypeId)(ht:t=K.S)
  (ho:o.op=.call { callee:=.builtin .append,args:=#[s,x],argTypes:=#[t,t] }) (base:Nat) (A:Option Addr) (n c:Nat) (l:List α) (hs:a.eval s=.slice A n c) (h:OwnK K w base A n c l) (A2:Option Addr) (m c2:Nat) (l2:List α) (hx:a.eval x=.slice A2 m c2) (h2:Lst K w A2 m l2) (hnil:A2=none→m=0∧c2=0)
  (hb:(n+m)*K.bs≤140737488355328) (hbase:base≤w.heap.size)
  (hk:∀ A' c' w',OwnK K w' base A' (n+m) c' (l++l2)→w.grownBy w' (Value.slice A n c).ownBlock →
    ((Value.slice A' (n+m) c').ownBlock=(Value.slice A n c).ownBlock∨(Value.slice A' (n+m) c').ownBlock=some w.heap.size)→X (a.put o.dst (.slice A' (n+m) c')) w'):if Region.wanted o (yielded ops a.tmps)=true then Oper.wp Tryz.prog o a w X R else E:=by
 subst ht
 rw[if_pos (wanted_plain hgd)]
 obtain⟨A',c',w',hr,h3,h4,h5⟩:=run_appKG K w base A n c l h A2 m c2 l2 h2 hnil hb hbase o.type
 unfold Oper.wp execOp
 simp only[ho,resolve,invoke,builtin,Sem.run_bind,Sem.run_pure,Result.andThen_ok,List.map_toArray,List.map_cons,List.map_nil,hs,hx,hr]
 exact hk A' c' w' h3 h4 h5
def Apt (A B:Option Addr):Prop:=∀ a b,A=some a→B=some b→a.block≠b.block
theorem OwnK.away {K:Kind α}{w w':World}{base:Nat}{A B:Option Addr}{n c m d:Nat}{l:List α}(h:OwnK K w base B m d l)(hg:w.grownBy w' (Value.slice A n c).ownBlock)(hap:Apt A B)(hA:A=none→True):OwnK K w' base B m d l:=by
 refine⟨h.1,?_⟩
 rcases h.2 with ⟨e,h0⟩ | ⟨g,cap,cur,e,hg2,hh,r⟩
 · exact .inl ⟨e,h0⟩
 · refine .inr ⟨g,cap,cur,e,hg2,(hg.block g (Array.getElem?_eq_some_iff.1 hh).1 ?_).trans hh,r⟩
   intro e2
   injection e with e
   cases A with
   | none=>cases e2
   | some a =>
     simp only[Value.ownBlock,Option.some.injEq] at e2
     exact hap a ⟨g,0,none⟩ rfl e e2.symm
theorem Apt.app {K:Kind α}{w:World}{base:Nat}{A B A':Option Addr}{n c m d n' c':Nat}{l:List α}(h:OwnK K w base B m d l)(hap:Apt A B)
  (ht:(Value.slice A' n' c').ownBlock=(Value.slice A n c).ownBlock∨(Value.slice A' n' c').ownBlock=some w.heap.size):Apt A' B:=by
 intro a b ea eb
 subst ea eb
 have hb:b.block<w.heap.size:=by
  rcases h.parts with ⟨e,_⟩ | ⟨g,cur,e,hb,hh,_⟩
  · cases e
  · injection e with e;subst e;exact(Array.getElem?_eq_some_iff.1 hh).1
 rcases ht with ht | ht
 · cases A with
    | none=>simp[Value.ownBlock] at ht
    | some a0 =>
      simp only[Value.ownBlock,Option.some.injEq] at ht
      rw[ht];exact hap a0 b rfl rfl
 · simp only[Value.ownBlock,Option.some.injEq] at ht
   omega
theorem Apt.symm {A B:Option Addr}(h:Apt A B):Apt B A:=fun a b ea eb e=>h b a eb ea e.symm
end
section
open Go.RowKit Prm
theorem isM_pre (m:UInt8)(k:ByteArray):Lib.hasPrefix k.data.toList [m]=Bm.isM m k:=by
 unfold Lib.hasPrefix Bm.isM
 cases k.data.toList with
 | nil=>rfl
 | cons a l =>
   simp only[List.isPrefixOf,List.head?_cons,Bool.and_true]
   by_cases h:m=a
   · subst h;simp
   · simp[h,Ne.symm h]
theorem cutp_any (m:UInt8)(s:ByteArray)(w:World) :
  Calls Tryz.prog 159 #[.string s,.string ⟨#[m]⟩] w fun e w'=>e=.returned (.tuple #[.string (if Bm.isM m s then Bm.cut s else s),.bool (Bm.isM m s)])∧w'=w:=by
 have h:=Tryz.strings_CutPrefix s ⟨#[m]⟩ w
 have e1:Lib.hasPrefix s.data.toList (⟨#[m]⟩:ByteArray).data.toList=Bm.isM m s:=isM_pre m s
 have e2:(⟨(Lib.trimPrefix s.data.toList (⟨#[m]⟩:ByteArray).data.toList).toArray⟩:ByteArray)=if Bm.isM m s then Bm.cut s else s:=by
  unfold Lib.trimPrefix
  rw[e1]
  split
  · show (⟨(s.data.toList.drop 1).toArray⟩:ByteArray)=_
    unfold Bm.cut;rw[List.drop_one]
  · simp
 rw[e1,e2] at h
 exact h
structure Bk (w:World) (A:Option Addr) (n c:Nat) (B:Option Addr) (m d:Nat) (s:Bm.Sta) (wi:World):Prop where
 res:Bx wi w.heap.size [.slice none 0 0,.slice none 0 0]
 bb:Bx wi (w.heap.size+1) [.slice A n c,.slice B m d]
 o1:OwnK pairK wi (w.heap.size+1+1) A n c s.data
 o2:OwnK pairK wi (w.heap.size+1+1) B m d s.toks
 ap:Apt A B
 q:Q w wi
 l:w.heap.size+1+1≤wi.heap.size
section
variable {w wi wj:World} {A B:Option Addr} {n c m d:Nat} {s:Bm.Sta}
theorem Bk.step (h:Bk w A n c B m d s wi)(q:Q wi wj):Bk w A n c B m d s wj:=
 ⟨h.res.q q,h.bb.q q,h.o1.q q,h.o2.q q,h.ap,h.q.trans q,Nat.le_trans h.l q.size⟩
theorem Bk.setData (h:Bk w A n c B m d s wi){A':Option Addr}{n' c':Nat}{l':List Pr}(ho:OwnK pairK wj (w.heap.size+1+1) A' n' c' l')(hg:wi.grownBy wj (Value.slice A n c).ownBlock)
  (ht:(Value.slice A' n' c').ownBlock=(Value.slice A n c).ownBlock∨(Value.slice A' n' c').ownBlock=some wi.heap.size):Bk w A' n' c' B m d ⟨l',s.toks⟩ (wj.setCell ⟨w.heap.size+1,0,none⟩ (.slice A' n' c')):=by
 have hb:=grown_below h.o1 hg h.l
 exact⟨(h.res.below hb (by omega)).far (by simp only;omega) _,(h.bb.below hb (by omega)).set (k:=0) (by simp) _,ho.setCell (by simp only;omega) _,(h.o2.away hg h.ap (fun _=>trivial)).setCell (by simp only;omega) _,
   Apt.app (n:=n) (c:=c) h.o2 h.ap ht,Q.setCell (a:=w) (h.q.below.trans (hb.mono (by omega))) (by simp only;omega) _,by have:=h.l;have:=hb.size;simp only[World.size_setCell];omega⟩
theorem Bk.setToks (h:Bk w A n c B m d s wi){B':Option Addr}{m' d':Nat}{l':List Pr}(ho:OwnK pairK wj (w.heap.size+1+1) B' m' d' l')(hg:wi.grownBy wj (Value.slice B m d).ownBlock)
  (ht:(Value.slice B' m' d').ownBlock=(Value.slice B m d).ownBlock∨(Value.slice B' m' d').ownBlock=some wi.heap.size):Bk w A n c B' m' d' ⟨s.data,l'⟩ (wj.setCell ⟨w.heap.size+1,1,none⟩ (.slice B' m' d')):=by
 have hb:=grown_below h.o2 hg h.l
 exact⟨(h.res.below hb (by omega)).far (by simp only;omega) _,(h.bb.below hb (by omega)).set (k:=1) (by simp) _,(h.o1.away hg h.ap.symm (fun _=>trivial)).setCell (by simp only;omega) _,ho.setCell (by simp only;omega) _,
   (Apt.app (n:=m) (c:=d) h.o1 h.ap.symm ht).symm,Q.setCell (a:=w) (h.q.below.trans (hb.mono (by omega))) (by simp only;omega) _,by have:=h.l;have:=hb.size;simp only[World.size_setCell];omega⟩
theorem Bk.new (w:World):Bk w none 0 0 none 0 0 ⟨[],[]⟩ ((w.alloc (.cells #[.slice none 0 0,.slice none 0 0] 30)).alloc (.cells #[.slice none 0 0,.slice none 0 0] 30)):=by
 refine⟨(Bx.new w [.slice none 0 0,.slice none 0 0] 30).alloc _,?_,OwnK.nil_ _ _ _,OwnK.nil_ _ _ _,(fun a b e=>by cases e),((Q.refl w).alloc _).alloc _,by simp⟩
 have:=Bx.new (w.alloc (.cells #[.slice none 0 0,.slice none 0 0] 30)) [.slice none 0 0,.slice none 0 0] 30
 simpa using this
end
namespace Bm
theorem backL_at {l:List Pr}{j:Nat}(h:j<l.length)(s:Sta):backL (l.drop j) s=match step s l[j] with | some t=>backL (l.drop (j+1)) t | none=>none:=by
 rw[List.drop_eq_getElem_cons h];rfl
theorem step_d {s:Sta}{p:Pr}(h1:isM 100 p.key=true)(h2:s.toks=[]):step s p=some ⟨s.data++[⟨cut p.key,p.val⟩],s.toks⟩:=by unfold step;rw[if_pos ⟨h1,h2⟩]
theorem step_t {s:Sta}{p:Pr}(h0:¬(isM 100 p.key=true∧s.toks=[]))(h1:isM 116 p.key=true)(h2:cg p.val=true):step s p=some ⟨s.data,s.toks++[⟨cut p.key,p.val⟩]⟩:=by unfold step;rw[if_neg h0,if_pos ⟨h1,h2⟩]
theorem step_n {s:Sta}{p:Pr}(h0:¬(isM 100 p.key=true∧s.toks=[]))(h1:¬(isM 116 p.key=true∧cg p.val=true)):step s p=none:=by unfold step;rw[if_neg h0,if_neg h1]
def none_:Sta×Nat:=(⟨[],[]⟩,3)
theorem back_some {l:List Pr}{s:Sta}(h:backL l ⟨[],[]⟩=some s):back l=(s,0):=by unfold back;rw[h]
theorem back_none {l:List Pr}(h:backL l ⟨[],[]⟩=none):back l=none_:=by unfold back;rw[h];rfl
theorem cg_c:cg ⟨#[99]⟩=true:=by decide
theorem cg_g:cg ⟨#[103]⟩=true:=by decide
theorem cg_no {v:ByteArray}(h1:¬ v=⟨#[99]⟩)(h2:¬ v=⟨#[103]⟩):cg v=false:=by unfold cg;simp[h1,h2]
theorem isM_two {k:ByteArray}(h:isM 100 k=true):isM 116 k=false:=by
 unfold isM at h ⊢
 simp only[decide_eq_true_eq] at h
 simp[h]
end Bm
theorem bback_any (A0:Option Addr)(n c0:Nat)(l:List Pr)(w:World)(hf:Lst pairK w A0 n l)(hb:n*32≤140737488355328) :
  Calls Tryz.prog 118 #[.slice A0 n c0] w (RetS w (Bm.back l)):=by
 have HF:=hid hf
 have HL:=hid hf.len
 have hn0:n≤9223372036854775807:=by omega
 have hbn:=hid (fun h=>Bm.back_none (l:=l) h)
 have hbs:=hid (fun s h=>Bm.back_some (l:=l) (s:=s) h)
 clear hf
 generalize hR:Bm.back l=R at hbn hbs ⊢
 clear hR
 go_enter Tryz.func118,Tryz.ntmps118
 go_upto_region 2 with (fail)
 have X0:=hid (Bk.new w)
 generalize ((w.alloc (.cells #[.slice none 0 0,.slice none 0 0] 30)).alloc (.cells #[.slice none 0 0,.slice none 0 0] 30))=w2 at X0 ⊢
 go_wp2
 go_loopw [13] (fun i wr=>∃ (j:Nat) (sd st:List Pr) (A:Option Addr) (c:Nat) (B:Option Addr) (d:Nat),j≤n∧i=.int .i64 j∧Bk w A sd.length c B st.length d ⟨sd,st⟩ wr∧Bm.backL l ⟨[],[]⟩=Bm.backL (l.drop j) ⟨sd,st⟩∧sd.length+st.length=j) (fun i _=>n - (intOf i).toNat)
 case atStart=>exact⟨0,[],[],none,0,none,0,Nat.zero_le _,rfl,X0.out,rfl,rfl⟩
 case round =>
  obtain⟨j,sd,st,A,c,B,d,hj,rfl,x1,hT,hsum⟩:=hrel
  have X:=hid x1
  have HT:=hid hT
  clear x1 hT X0
  by_cases hlt:j<n
  · have hjl:j<l.length:=by have:=HL.out;omega
    have hjn:(j:Int)<(n:Int):=by omega
    have HA:=hid (HT.out.trans (Bm.backL_at hjl ⟨sd,st⟩))
    obtain⟨ad,rfl,hab,y0,y1⟩:=load_pair (HF.out.q X.out.q) hlt hjl
    generalize l[j]=x at y0 y1 HA
    obtain⟨a,b⟩:=x
    dsimp only at y0 y1
    have K1:=hid (fun W=>cutp_any 100 a W)
    have K2:=hid (fun W=>cutp_any 116 a W)
    have hs1:(sd.length+1)*32≤140737488355328:=by omega
    have hs2:(st.length+1)*32≤140737488355328:=by omega
    cases ha:Bm.isM 100 a with
    | true =>
      by_cases hst:st=[]
      · have HN:=hid (HA.out.trans (by rw[Bm.step_d (s:=⟨sd,st⟩) (p:=⟨a,b⟩) ha hst]):Bm.backL l ⟨[],[]⟩=Bm.backL (l.drop (j+1)) ⟨sd++[⟨Bm.cut a,b⟩],st⟩)
        rw[ha] at K1
        simp only[if_true] at K1
        generalize Bm.cut a=Ka at K1 HN
        generalize (if Bm.isM 116 a=true then Bm.cut a else a)=Kt at K2
        generalize Bm.isM 116 a=it at K2
        have hl0:((st.length:Int) == 0)=true:=by rw[hst];rfl
        obtain⟨⟨b0,b1⟩,b2,b3⟩:=X.out.bb.get2
        clear ha HA hst
        go_wp2_with fail
        refine(K1.out _).mono ?_
        rintro e w5 ⟨rfl,rfl⟩
        go_wp2_with fail
        refine(K2.out _).mono ?_
        rintro e w6 ⟨rfl,rfl⟩
        obtain⟨⟨p0,p1⟩,p2,p3⟩:=(X.out.step ((Q.refl _).alloc (.cells #[.string a,.string b] 75))).bb.get2
        go_wp2_with (at_builtin
                     refine wpl_appKG pairK rfl (.tmp 39) (.tmp 44) 28 rfl rfl (w.heap.size+1+1) A sd.length c sd rfl (X.out.step (((Q.refl _).alloc (.cells #[.string a,.string b] 75)).alloc _)).o1 (some ⟨wr.heap.size+1,0,none⟩) 1 1 [⟨Ka,b⟩] rfl (by have:=lit_pair (wr.alloc (.cells #[.string a,.string b] 75)) ⟨Ka,b⟩;simpa using this) (fun e=>by cases e) (by show (sd.length+1)*32≤_;omega) (X.out.step (((Q.refl _).alloc (.cells #[.string a,.string b] 75)).alloc _)).l ?_
                     intro A5 c5 w5 o5 g5 t5
                     have X5:=hid ((X.out.step (((Q.refl _).alloc (.cells #[.string a,.string b] 75)).alloc (.cells #[.string Ka,.string b] 75))).setData o5 g5 t5)
                     obtain⟨⟨a0,a1⟩,a2,a3⟩:=((X.out.step (((Q.refl _).alloc (.cells #[.string a,.string b] 75)).alloc (.cells #[.string Ka,.string b] 75))).bb.below (grown_below (X.out.step (((Q.refl _).alloc (.cells #[.string a,.string b] 75)).alloc (.cells #[.string Ka,.string b] 75))).o1 g5 (X.out.step (((Q.refl _).alloc (.cells #[.string a,.string b] 75)).alloc _)).l) (by omega)).get2
                     clear o5 g5 t5)
        go_roundw
        case rel=>exact⟨j+1,sd++[⟨Ka,b⟩],st,A5,c5,B,d,by omega,by go_num,by rw[List.length_append];exact X5.out,HN.out,by rw[List.length_append];show sd.length+1+st.length=_;omega⟩
        case measure=>simp[intOf];omega
      · have hl1:st.length≠0:=fun e=>hst (List.eq_nil_of_length_eq_zero e)
        generalize hmm:st.length=m at X hsum hs2 hl1
        clear hmm
        have hl0:((m:Int) == 0)=false:=by simp;omega
        clear hl1
        have HB:=hid (hbn.out (HA.out.trans (by rw[Bm.step_n (s:=⟨sd,st⟩) (p:=⟨a,b⟩) (fun h=>hst h.2) (fun h=>by have:=h.1;simp only at this;rw[Bm.isM_two ha] at this;cases this)])))
        rw[ha] at K1
        rw[Bm.isM_two ha] at K2
        simp only[if_true,Bool.false_eq_true,if_false] at K1 K2
        generalize Bm.cut a=Ka at K1
        clear ha HA hst
        go_wp2_with fail
        refine(K1.out _).mono ?_
        rintro e w5 ⟨rfl,rfl⟩
        go_wp2_with fail
        refine(K2.out _).mono ?_
        rintro e w6 ⟨rfl,rfl⟩
        have X6:=hid (X.out.step ((Q.refl _).alloc (.cells #[.string a,.string b] 75)))
        obtain⟨⟨b0,b1⟩,b2,b3⟩:=X6.out.bb.get2
        obtain⟨⟨p0,p1⟩,p2,p3⟩:=X6.out.res.get2
        go_wp2
        obtain⟨⟨r0,r1⟩,_⟩:=(X6.out.res.set2 (.slice none 0 0) (.slice none 0 0)).get2
        refine bodyPost_ret (v:=.tuple #[staV none 0 0 none 0 0,.int .i64 3]) (by simp[results,Tryz.results118,go_sem,r0,r1]) rfl ?_
        rw[HB.out]
        exact⟨none,0,none,0,rfl,OwnK.nil_ _ _ _,OwnK.nil_ _ _ _,X6.out.q.set2 (Nat.le_refl _) _ _⟩
    | false =>
      rw[ha] at K1
      simp only[Bool.false_eq_true,if_false] at K1
      cases ht:Bm.isM 116 a with
      | false =>
        have HB:=hid (hbn.out (HA.out.trans (by rw[Bm.step_n (s:=⟨sd,st⟩) (p:=⟨a,b⟩) (fun h=>by have:=h.1;simp only at this;rw[ha] at this;cases this) (fun h=>by have:=h.1;simp only at this;rw[ht] at this;cases this)])))
        rw[ht] at K2
        simp only[Bool.false_eq_true,if_false] at K2
        clear ha ht HA
        go_wp2_with fail
        refine(K1.out _).mono ?_
        rintro e w5 ⟨rfl,rfl⟩
        go_wp2_with fail
        refine(K2.out _).mono ?_
        rintro e w6 ⟨rfl,rfl⟩
        have X6:=hid (X.out.step ((Q.refl _).alloc (.cells #[.string a,.string b] 75)))
        obtain⟨⟨p0,p1⟩,p2,p3⟩:=X6.out.res.get2
        go_wp2
        obtain⟨⟨r0,r1⟩,_⟩:=(X6.out.res.set2 (.slice none 0 0) (.slice none 0 0)).get2
        refine bodyPost_ret (v:=.tuple #[staV none 0 0 none 0 0,.int .i64 3]) (by simp[results,Tryz.results118,go_sem,r0,r1]) rfl ?_
        rw[HB.out]
        exact⟨none,0,none,0,rfl,OwnK.nil_ _ _ _,OwnK.nil_ _ _ _,X6.out.q.set2 (Nat.le_refl _) _ _⟩
      | true =>
        rw[ht] at K2
        simp only[if_true] at K2
        by_cases hc:b=⟨#[99]⟩
        · subst hc
          have HN:=hid (HA.out.trans (by rw[Bm.step_t (s:=⟨sd,st⟩) (p:=⟨a,⟨#[99]⟩⟩) (fun h=>by have:=h.1;simp only at this;rw[ha] at this;cases this) ht Bm.cg_c]):Bm.backL l ⟨[],[]⟩=Bm.backL (l.drop (j+1)) ⟨sd,st++[⟨Bm.cut a,⟨#[99]⟩⟩]⟩)
          generalize Bm.cut a=Kt at K2 HN
          clear ha ht HA
          go_wp2_with fail
          refine(K1.out _).mono ?_
          rintro e w5 ⟨rfl,rfl⟩
          go_wp2_with fail
          refine(K2.out _).mono ?_
          rintro e w6 ⟨rfl,rfl⟩
          obtain⟨⟨p0,p1⟩,p2,p3⟩:=(X.out.step ((Q.refl _).alloc (.cells #[.string a,.string ⟨#[99]⟩] 75))).bb.get2
          go_wp2_with (at_builtin
                       refine wpl_appKG pairK rfl (.tmp 60) (.tmp 65) 28 rfl rfl (w.heap.size+1+1) B st.length d st rfl (X.out.step (((Q.refl _).alloc (.cells #[.string a,.string ⟨#[99]⟩] 75)).alloc _)).o2 (some ⟨wr.heap.size+1,0,none⟩) 1 1 [⟨Kt,⟨#[99]⟩⟩] rfl (by have:=lit_pair (wr.alloc (.cells #[.string a,.string ⟨#[99]⟩] 75)) ⟨Kt,⟨#[99]⟩⟩;simpa using this) (fun e=>by cases e) (by show (st.length+1)*32≤_;omega) (X.out.step (((Q.refl _).alloc (.cells #[.string a,.string ⟨#[99]⟩] 75)).alloc _)).l ?_
                       intro A5 c5 w5 o5 g5 t5
                       have X5:=hid ((X.out.step (((Q.refl _).alloc (.cells #[.string a,.string ⟨#[99]⟩] 75)).alloc (.cells #[.string Kt,.string ⟨#[99]⟩] 75))).setToks o5 g5 t5)
                       obtain⟨⟨a0,a1⟩,a2,a3⟩:=((X.out.step (((Q.refl _).alloc (.cells #[.string a,.string ⟨#[99]⟩] 75)).alloc (.cells #[.string Kt,.string ⟨#[99]⟩] 75))).bb.below (grown_below (X.out.step (((Q.refl _).alloc (.cells #[.string a,.string ⟨#[99]⟩] 75)).alloc (.cells #[.string Kt,.string ⟨#[99]⟩] 75))).o2 g5 (X.out.step (((Q.refl _).alloc (.cells #[.string a,.string ⟨#[99]⟩] 75)).alloc _)).l) (by omega)).get2
                       clear o5 g5 t5)
          go_roundw
          case rel=>exact⟨j+1,sd,st++[⟨Kt,⟨#[99]⟩⟩],A,c,A5,c5,by omega,by go_num,by rw[List.length_append];exact X5.out,HN.out,by rw[List.length_append];show sd.length+(st.length+1)=_;omega⟩
          case measure=>simp[intOf];omega
        · by_cases hg:b=⟨#[103]⟩
          · subst hg
            have HN:=hid (HA.out.trans (by rw[Bm.step_t (s:=⟨sd,st⟩) (p:=⟨a,⟨#[103]⟩⟩) (fun h=>by have:=h.1;simp only at this;rw[ha] at this;cases this) ht Bm.cg_g]):Bm.backL l ⟨[],[]⟩=Bm.backL (l.drop (j+1)) ⟨sd,st++[⟨Bm.cut a,⟨#[103]⟩⟩]⟩)
            generalize Bm.cut a=Kt at K2 HN
            clear ha ht HA hc
            go_wp2_with fail
            refine(K1.out _).mono ?_
            rintro e w5 ⟨rfl,rfl⟩
            go_wp2_with fail
            refine(K2.out _).mono ?_
            rintro e w6 ⟨rfl,rfl⟩
            obtain⟨⟨p0,p1⟩,p2,p3⟩:=(X.out.step ((Q.refl _).alloc (.cells #[.string a,.string ⟨#[103]⟩] 75))).bb.get2
            go_wp2_with (at_builtin
                         refine wpl_appKG pairK rfl (.tmp 60) (.tmp 65) 28 rfl rfl (w.heap.size+1+1) B st.length d st rfl (X.out.step (((Q.refl _).alloc (.cells #[.string a,.string ⟨#[103]⟩] 75)).alloc _)).o2 (some ⟨wr.heap.size+1,0,none⟩) 1 1 [⟨Kt,⟨#[103]⟩⟩] rfl (by have:=lit_pair (wr.alloc (.cells #[.string a,.string ⟨#[103]⟩] 75)) ⟨Kt,⟨#[103]⟩⟩;simpa using this) (fun e=>by cases e) (by show (st.length+1)*32≤_;omega) (X.out.step (((Q.refl _).alloc (.cells #[.string a,.string ⟨#[103]⟩] 75)).alloc _)).l ?_
                         intro A5 c5 w5 o5 g5 t5
                         have X5:=hid ((X.out.step (((Q.refl _).alloc (.cells #[.string a,.string ⟨#[103]⟩] 75)).alloc (.cells #[.string Kt,.string ⟨#[103]⟩] 75))).setToks o5 g5 t5)
                         obtain⟨⟨a0,a1⟩,a2,a3⟩:=((X.out.step (((Q.refl _).alloc (.cells #[.string a,.string ⟨#[103]⟩] 75)).alloc (.cells #[.string Kt,.string ⟨#[103]⟩] 75))).bb.below (grown_below (X.out.step (((Q.refl _).alloc (.cells #[.string a,.string ⟨#[103]⟩] 75)).alloc (.cells #[.string Kt,.string ⟨#[103]⟩] 75))).o2 g5 (X.out.step (((Q.refl _).alloc (.cells #[.string a,.string ⟨#[103]⟩] 75)).alloc _)).l) (by omega)).get2
                         clear o5 g5 t5)
            go_roundw
            case rel=>exact⟨j+1,sd,st++[⟨Kt,⟨#[103]⟩⟩],A,c,A5,c5,by omega,by go_num,by rw[List.length_append];exact X5.out,HN.out,by rw[List.length_append];show sd.length+(st.length+1)=_;omega⟩
            case measure=>simp[intOf];omega
          · have HB:=hid (hbn.out (HA.out.trans (by rw[Bm.step_n (s:=⟨sd,st⟩) (p:=⟨a,b⟩) (fun h=>by have:=h.1;simp only at this;rw[ha] at this;cases this) (fun h=>by have:=h.2;simp only at this;rw[Bm.cg_no hc hg] at this;cases this)])))
            have hc1:(b.toList == (⟨#[99]⟩:ByteArray).toList)=false:=by rw[same_str];simpa using hc
            have hg1:(b.toList == (⟨#[103]⟩:ByteArray).toList)=false:=by rw[same_str];simpa using hg
            have hc2:(b.toList == [99])=false:=by rw[show (⟨#[99]⟩:ByteArray).toList=[99] by rw[ByteArray.toList_eq]] at hc1;exact hc1
            have hg2:(b.toList == [103])=false:=by rw[show (⟨#[103]⟩:ByteArray).toList=[103] by rw[ByteArray.toList_eq]] at hg1;exact hg1
            generalize Bm.cut a=Kt at K2
            clear ha ht HA hc hg
            go_wp2_with fail
            refine(K1.out _).mono ?_
            rintro e w5 ⟨rfl,rfl⟩
            go_wp2_with fail
            refine(K2.out _).mono ?_
            rintro e w6 ⟨rfl,rfl⟩
            have X6:=hid (X.out.step ((Q.refl _).alloc (.cells #[.string a,.string b] 75)))
            obtain⟨⟨p0,p1⟩,p2,p3⟩:=X6.out.res.get2
            go_wp2
            obtain⟨⟨r0,r1⟩,_⟩:=(X6.out.res.set2 (.slice none 0 0) (.slice none 0 0)).get2
            refine bodyPost_ret (v:=.tuple #[staV none 0 0 none 0 0,.int .i64 3]) (by simp[results,Tryz.results118,go_sem,r0,r1]) rfl ?_
            rw[HB.out]
            exact⟨none,0,none,0,rfl,OwnK.nil_ _ _ _,OwnK.nil_ _ _ _,X6.out.q.set2 (Nat.le_refl _) _ _⟩
  · have hjn:¬((j:Int)<(n:Int)):=by omega
    have HB:=hid (hbs.out ⟨sd,st⟩ (HT.out.trans (by rw[List.drop_of_length_le (by have:=HL.out;omega)];rfl)))
    obtain⟨⟨b0,b1⟩,b2,b3⟩:=X.out.bb.get2
    obtain⟨⟨p0,p1⟩,p2,p3⟩:=X.out.res.get2
    go_wp2
    obtain⟨⟨r0,r1⟩,_⟩:=(X.out.res.set2 (.slice A sd.length c) (.slice B st.length d)).get2
    refine bodyPost_ret (v:=.tuple #[staV A sd.length c B st.length d,.int .i64 0]) (by simp[results,Tryz.results118,go_sem,r0,r1]) rfl ?_
    rw[HB.out]
    exact⟨A,c,B,d,rfl,(X.out.o1.set2 (b:=w.heap.size) (by omega) _ _).lower (by omega),(X.out.o2.set2 (b:=w.heap.size) (by omega) _ _).lower (by omega),X.out.q.set2 (Nat.le_refl _) _ _⟩
end
section
open Go.RowKit Dkm Km Wm
theorem Bm.backL_lenK:∀ (l:List Prm.Pr) (s t:Bm.Sta),Bm.backL l s=some t→t.data.length+t.toks.length=s.data.length+s.toks.length+l.length
 | [],s,t,h=>by simp only[Bm.backL,Option.some.injEq] at h;subst h;simp
 | p :: l,s,t,h=>by
   unfold Bm.backL at h
   cases hs:Bm.step s p with
   | none=>rw[hs] at h;cases h
   | some u =>
     rw[hs] at h
     have h1:=Bm.step_len hs
     have h2:=Bm.backL_lenK l u t h
     simp only[List.length_cons];omega
theorem Bm.back_lenK (l:List Prm.Pr):(Bm.back l).1.data.length+(Bm.back l).1.toks.length≤l.length:=by
 unfold Bm.back
 cases h:Bm.backL l ⟨[],[]⟩ with
 | none=>simp
 | some t=>have:=Bm.backL_lenK l ⟨[],[]⟩ t h;simp at this;simp only;omega
theorem tkp_count:∀ (n:Nat) (r:List UInt8) (acc:List Prm.Pr),(Rn.tkp n r acc).1.length*4≤acc.length*4+r.length
 | 0,r,acc=>by unfold Rn.tkp;simp
 | n + 1,r,acc=>by
   unfold Rn.tkp
   split
   · simp
   · rename_i h1
     split
     · simp
     · rename_i h2
       have h3:=Rn.ttext_takes r 65536 (by simpa using h1)
       have h4:=Rn.ttext_takes (Dm.ttext r 65536).2.1 65536 (by simpa using h2)
       have h5:=tkp_count n (Dm.ttext (Dm.ttext r 65536).2.1 65536).2.1 (acc++[⟨⟨(Dm.ttext r 65536).1.toArray⟩,⟨(Dm.ttext (Dm.ttext r 65536).2.1 65536).1.toArray⟩⟩])
       rw[List.length_append,List.length_singleton] at h5
       omega
theorem take_count (s:List UInt8)(most:Int):(Rn.take s most).1.length*4≤s.length:=by
 unfold Rn.take Rn.tk1
 have h0:=(topen_len s most).1
 split
 · simp
 · unfold Rn.tk2
   split
   · simp
   · show (Rn.tkps (topen s most).1).1.length*4≤s.length
     unfold Rn.tkps
     split
     · simp
     · have h1:=tkp_count (Dm.tnum (topen s most).1).1 (Dm.tnum (topen s most).1).2.1 []
       have h2:=Dm.tnum_len (topen s most).1
       simp only[List.length_nil,Nat.zero_mul,Nat.zero_add] at h1
       omega
theorem loadM_count {B:Nat}(nm:ByteArray)(l:List Fil)(h:∀ f∈l,f.sf.size+f.wt.size≤B):(Rn.loadM nm l).1.length*4≤B:=by
 unfold Rn.loadM
 split
 · simp
 · have h1:=take_count (redd nm l).1.data.toList 1073741824
   have h2:=redd_size nm l h
   rw[Rn.size_data] at h1
   omega
def RetLd (w:World)(r:Bm.Sta×Int)(e:Ending)(w':World):Prop:=
 ∃ A n c B m d s v,e=.returned (.tuple #[staV A n c B m d,v])∧In_ pairK w' A n c s.data∧In_ pairK w' B m d s.toks∧Q w w'∧(r.2=0∧v=.nilIface∧s=r.1∨r.2≠0∧Ev v 3)
structure Pl (w:World) (A:Option Addr) (n c:Nat) (d:Dk) (wi:World):Prop where
 db:Bx wi w.heap.size [.slice A n c,.int .i64 d.room,.int .i64 d.fuse,.bool d.off]
 res:Bx wi (w.heap.size+1) [.slice none 0 0,.slice none 0 0]
 dsk:Dsk wi A n c d.fs
 q:Q w wi
section
variable {w wi wj:World} {A B C:Option Addr} {n c bn bc cn cc:Nat} {d:Dk} {s:Bm.Sta}
theorem Pl.new (h:Dsk w A n c d.fs):Pl w A n c d ((w.alloc (.cells #[.slice A n c,.int .i64 d.room,.int .i64 d.fuse,.bool d.off] 24)).alloc (.cells #[.slice none 0 0,.slice none 0 0] 30)):=by
 refine⟨(Bx.new w [.slice A n c,.int .i64 d.room,.int .i64 d.fuse,.bool d.off] 24).alloc _,?_,h.q (((Q.refl w).alloc _).alloc _),((Q.refl w).alloc _).alloc _⟩
 have:=Bx.new (w.alloc (.cells #[.slice A n c,.int .i64 d.room,.int .i64 d.fuse,.bool d.off] 24)) [.slice none 0 0,.slice none 0 0] 30
 rw[show (w.alloc (.cells #[.slice A n c,.int .i64 d.room,.int .i64 d.fuse,.bool d.off] 24)).heap.size=w.heap.size+1 by simp] at this
 exact this
theorem Pl.step (h:Pl w A n c d wi)(q:Q wi wj):Pl w A n c d wj:=⟨h.db.q q,h.res.q q,h.dsk.q q,h.q.trans q⟩
theorem Pl.fin (h:Pl w A n c d wi)(hB:In_ pairK wi B bn bc s.data)(hC:In_ pairK wi C cn cc s.toks) :
  Bx ((wi.setCell ⟨w.heap.size+1,0,none⟩ (.slice B bn bc)).setCell ⟨w.heap.size+1,1,none⟩ (.slice C cn cc)) (w.heap.size+1) [.slice B bn bc,.slice C cn cc] ∧
  In_ pairK ((wi.setCell ⟨w.heap.size+1,0,none⟩ (.slice B bn bc)).setCell ⟨w.heap.size+1,1,none⟩ (.slice C cn cc)) B bn bc s.data ∧
  In_ pairK ((wi.setCell ⟨w.heap.size+1,0,none⟩ (.slice B bn bc)).setCell ⟨w.heap.size+1,1,none⟩ (.slice C cn cc)) C cn cc s.toks ∧
  Q w ((wi.setCell ⟨w.heap.size+1,0,none⟩ (.slice B bn bc)).setCell ⟨w.heap.size+1,1,none⟩ (.slice C cn cc)):=by
 have h1:=hB.stk h.res (nt2 _ _ _ _ _ _) [(0,Value.slice B bn bc),(1,.slice C cn cc)] (us2_ok _ _ _ _ _ _ _ _)
 have h2:=hC.stk h.res (nt2 _ _ _ _ _ _) [(0,Value.slice B bn bc),(1,.slice C cn cc)] (us2_ok _ _ _ _ _ _ _ _)
 exact⟨h.res.set2 _ _,h1,h2,h.q.set2 (Nat.le_succ _) _ _⟩
end
theorem kload_any (A:Option Addr)(n c:Nat)(d:Dk)(n0:Int)(w:World)(a b:Addr)(hT:Kt w a b)(hd:Dsk w A n c d.fs)(hB:Bnd 2097152 d) :
  Calls Tryz.prog 69 #[dkv A n c d.room d.fuse d.off,.int .i64 n0] w (RetLd w (loadS d.fs n0)):=by
 by_cases h0:n0=0
 · subst h0
   rw[show loadS d.fs 0=(⟨[],[]⟩,0) by unfold loadS;rw[if_pos rfl]]
   exact(kload_zero A n c d w).mono fun e w' h=>by
    obtain⟨A,n,c,B,m,d,h1,h2,h3,h4⟩:=h
    exact⟨A,n,c,B,m,d,_,_,h1,h2,h3,h4,.inl ⟨rfl,rfl,rfl⟩⟩
 have hL:loadS d.fs n0=if (Rn.loadM (rnamB n0) d.fs).2≠0 then (⟨[],[]⟩,3) else if (Bm.back (Rn.loadM (rnamB n0) d.fs).1).2≠0 then (⟨[],[]⟩,3) else ((Bm.back (Rn.loadM (rnamB n0) d.fs).1).1,0):=by unfold loadS;rw[if_neg h0]
 have KN:=hid (fun W (q:Q w W)=>runName_any n0 W (hT.q q).tab)
 have KL:=hid (fun W (q:Q w W)=>load_any (rnamB n0) A n c d W (hd.q q) (fun f hf=>Nat.le_trans (hB.sum f hf) (by omega)))
 have hcnt:=loadM_count (rnamB n0) d.fs hB.sum
 have KU:=hid (fun (e:Int) W (q:Q w W)=>kunf_any e a b W (hT.q q).sen)
 generalize loadS d.fs n0=R at hL ⊢
 have X0:=hid (Pl.new hd)
 generalize Rn.loadM (rnamB n0) d.fs=x at KL hL hcnt
 obtain⟨rows,er⟩:=x
 obtain⟨l,room,fuse,off⟩:=d
 simp only at KL hL hcnt X0
 generalize rnamB n0=nm at KN KL
 clear hT hd hB
 by_cases he:er=0
 · subst he
   have hb1:rows.length*32≤140737488355328:=by omega
   have KB:=hid (fun (A2:Option Addr) (c2:Nat) (W:World) (hl:Lst pairK W A2 rows.length rows)=>bback_any A2 rows.length c2 rows W hl hb1)
   have hbl:=Bm.back_lenK rows
   rw[if_neg (by simp)] at hL
   generalize Bm.back rows=y at KB hL hbl
   obtain⟨st,be⟩:=y
   simp only at KB hL hbl
   have HL2:=hid (show st.data.length*32≤140737488355328∧st.toks.length*32≤140737488355328 by omega)
   have HR:Hid ((R.2=0∧unfV a b (be:Int)=.nilIface∧st=R.1∨R.2≠0∧Ev (unfV a b (be:Int)) 3)):=hid (by
    by_cases hbe:be=0
    · subst hbe
      rw[if_neg (by simp)] at hL
      subst hL
      exact .inl ⟨rfl,unf_zero a b,rfl⟩
    · rw[if_pos hbe] at hL
      subst hL
      exact .inr ⟨by decide,ev_unf a b (by omega)⟩)
   have KU2:=hid (fun W q=>KU.out (be:Int) W q)
   generalize unfV a b (be:Int)=v at KU2 HR
   clear hL hcnt hbl KU hb1
   go_enter Tryz.func69,Tryz.ntmps69
   go_upto_region 1 with (fail)
   generalize ((w.alloc (.cells #[.slice A n c,.int .i64 room,.int .i64 fuse,.bool off] 24)).alloc (.cells #[.slice none 0 0,.slice none 0 0] 30))=W at X0 ⊢
   obtain⟨⟨e0,e1,e2,e3⟩,f0,f1,f2,f3⟩:=X0.out.db.get4
   go_upto_region 3 with (fail)
   go_region_held3 (fun w'=>w'.cell? ⟨w.heap.size,0,none⟩=some (.slice A n c)∧w'.cell? ⟨w.heap.size,1,none⟩=some (.int .i64 room)∧w'.cell? ⟨w.heap.size,2,none⟩=some (.int .i64 fuse)∧w'.cell? ⟨w.heap.size,3,none⟩=some (.bool off))
     (first
       | go_keep
       | (go_split_ands
          (repeat' apply And.intro)<;>exact box_ ‹Q _ _› (by assumption)))
     (first
       | (go_at_call 12
          refine(KN.out _ X0.out.q.drew).mono ?_
          rintro e w1 ⟨rfl,q1⟩)
       | (go_at_call 117
          refine(KL.out _ (X0.out.q.drew.trans q1)).mono ?_
          rintro e w2 ⟨A2,c2,rfl,o2,q2⟩))
   have X1:=hid (X0.out.step (((Q.refl _).drew.trans q1).trans q2))
   try simp only at o2
   clear q1 e0 e1 e2 e3 f0 f1 f2 f3
   go_wp2_with fail
   refine(KB.out A2 c2 _ o2.lst).mono ?_
   rintro e w3 ⟨A3,c3,B3,d3,rfl,o3,p3,q3⟩
   simp only at o3 p3
   have X2:=hid ((X1.out.step q3).step ((Q.refl w3).alloc (.cells #[.slice A3 st.data.length c3,.slice B3 st.toks.length d3] 30)))
   have Z:=hid (Bx.new w3 [.slice A3 st.data.length c3,.slice B3 st.toks.length d3] 30)
   have I3:=hid (And.intro ((o3.in_ HL2.out.1).q ((Q.refl w3).alloc (.cells #[.slice A3 st.data.length c3,.slice B3 st.toks.length d3] 30))) ((p3.in_ HL2.out.2).q ((Q.refl w3).alloc (.cells #[.slice A3 st.data.length c3,.slice B3 st.toks.length d3] 30))))
   have hg:w.heap.size+1<w3.heap.size:=(X1.out.step q3).res.lt
   clear o3 p3 q3 X1 o2
   go_upto_region 7 with (fail)
   generalize (w3.alloc (.cells #[.slice A3 st.data.length c3,.slice B3 st.toks.length d3] 30))=W2 at X2 Z I3 ⊢
   generalize w3.heap.size=g at Z hg ⊢
   have D:=hid (X2.out.step ((Q.refl W2).drew))
   have I4:=hid (And.intro (I3.out.1.q ((Q.refl W2).drew)) (I3.out.2.q ((Q.refl W2).drew)))
   have Z4:=hid Z.out.drew
   refine wp_region_held_drew (S:=fun w'=>Bx w' g [.slice A3 st.data.length c3,.slice B3 st.toks.length d3]) (by kernel_rfl) ?szz0 (fun hHeld=>?rzz0)
   case szz0 =>
    exact Z4.out
   generalize W2.drew=W4 at D I4 Z4 ⊢
   have F:=hid (D.out.fin (s:=st) I4.out.1 I4.out.2)
   have ZF:Hid (Bx ((W4.setCell ⟨w.heap.size+1,0,none⟩ (.slice A3 st.data.length c3)).setCell ⟨w.heap.size+1,1,none⟩ (.slice B3 st.toks.length d3)) g [.slice A3 st.data.length c3,.slice B3 st.toks.length d3]):=hid (Z4.out.far_stk (g:=w.heap.size+1) (by omega) [(0,.slice A3 st.data.length c3),(1,.slice B3 st.toks.length d3)])
   refine takeH 0 ?v1 ?y1 ?_
   case y1=>intro w hSw;obtain⟨s0,s1⟩:=hSw.get2.1;go_simp;try with_reducible rfl
   refine takeH 1 ?v2 ?y2 ?_
   case y2=>intro w hSw;obtain⟨s0,s1⟩:=hSw.get2.1;go_simp;try with_reducible rfl
   refine oneH 2 (fun K hK=>?_)
   go_simp
   refine(KU2.out _ D.out.q).mono ?_
   rintro e w9 ⟨rfl,rfl⟩
   go_wp2_with fail
   refine hK.out _ _ (Z4.out) (fun hHeld=>?_)
   clear hK K
   try simp only[Act.put,sA,sB,sC]
   refine oneH 3 (fun K hK=>?_)
   obtain⟨⟨g0,g1⟩,i0,i1⟩:=D.out.res.get2
   go_simp
   refine hK.out _ _ (ZF.out) (fun hHeld=>?_)
   clear hK K
   try simp only[Act.put,sA,sB,sC]
   refine takeH 4 ?v3 ?y3 ?_
   case y3=>intro w hSw;obtain⟨s0,s1⟩:=hSw.get2.1;go_simp;try with_reducible rfl
   refine doneH ?_
   go_wp2
   (try rw[Exit.noGoto_ret])
   obtain⟨⟨r0,r1⟩,_⟩:=F.out.1.get2
   refine bodyPost_ret (v:=.tuple #[staV A3 st.data.length c3 B3 st.toks.length d3,v]) (by simp[results,Tryz.results69,go_sem,r0,r1]) rfl ?_
   exact⟨A3,_,c3,B3,_,d3,st,v,rfl,F.out.2.1,F.out.2.2.1,F.out.2.2.2,HR.out⟩
 · have HR:Hid (R=(⟨[],[]⟩,3)):=hid (by rw[hL,if_pos he])
   have hn:((er:Nat):Int)≠0:=by omega
   have HE:=hid (ev_unf a b hn)
   have KU2:=hid (fun W q=>KU.out (er:Int) W q)
   generalize unfV a b (er:Int)=v at KU2 HE
   clear hL hcnt KU
   go_enter Tryz.func69,Tryz.ntmps69
   go_upto_region 1 with (fail)
   generalize ((w.alloc (.cells #[.slice A n c,.int .i64 room,.int .i64 fuse,.bool off] 24)).alloc (.cells #[.slice none 0 0,.slice none 0 0] 30))=W at X0 ⊢
   obtain⟨⟨e0,e1,e2,e3⟩,f0,f1,f2,f3⟩:=X0.out.db.get4
   go_upto_region 3 with (fail)
   go_region_held3 (fun w'=>w'.cell? ⟨w.heap.size,0,none⟩=some (.slice A n c)∧w'.cell? ⟨w.heap.size,1,none⟩=some (.int .i64 room)∧w'.cell? ⟨w.heap.size,2,none⟩=some (.int .i64 fuse)∧w'.cell? ⟨w.heap.size,3,none⟩=some (.bool off))
     (first
       | go_keep
       | (go_split_ands
          (repeat' apply And.intro)<;>exact box_ ‹Q _ _› (by assumption)))
     (first
       | (go_at_call 12
          refine(KN.out _ X0.out.q.drew).mono ?_
          rintro e w1 ⟨rfl,q1⟩)
       | (go_at_call 117
          refine(KL.out _ (X0.out.q.drew.trans q1)).mono ?_
          rintro e w2 ⟨A2,c2,rfl,o2,q2⟩))
   have X1:=hid (X0.out.step (((Q.refl _).drew.trans q1).trans q2))
   try simp only at o2
   clear q1 e0 e1 e2 e3 f0 f1 f2 f3
   go_wp2_with fail
   refine(KU2.out _ X1.out.q).mono ?_
   rintro e w3 ⟨rfl,rfl⟩
   have X2:=X1
   clear X1
   have F:=hid (X2.out.fin (s:=⟨[],[]⟩) (In_.none_ pairK _) (In_.none_ pairK _))
   obtain⟨⟨g0,g1⟩,i0,i1⟩:=X2.out.res.get2
   clear X2
   go_wp2
   obtain⟨⟨r0,r1⟩,_⟩:=F.out.1.get2
   refine bodyPost_ret (v:=.tuple #[staV none 0 0 none 0 0,v]) (by simp[results,Tryz.results69,go_sem,r0,r1]) rfl ?_
   rw[HR.out]
   exact⟨none,0,0,none,0,0,⟨[],[]⟩,v,rfl,F.out.2.1,F.out.2.2.1,F.out.2.2.2,.inr ⟨by decide,HE.out⟩⟩
end
section
open Go.RowKit Dkm Prm Km Wm
theorem openM_bad (d:Dk):(openM d).2≠0→(openM d).1=ks0:=by
 unfold openM opnA
 split
 · intro _;rfl
 · unfold opnB
   split
   · intro _;rfl
   · exact opnC_bad _ _ _ _
theorem loadS_count {B:Nat}(l:List Fil)(n0:Int)(h:∀ f∈l,f.sf.size+f.wt.size≤B):(loadS l n0).1.data.length*4≤B∧(loadS l n0).1.toks.length*4≤B:=by
 have h1:=loadM_count (rnamB n0) l h
 have h2:=Bm.back_lenK (Rn.loadM (rnamB n0) l).1
 unfold loadS
 split
 · simp
 · split
   · simp
   · split
     · simp
     · constructor
       · show (Bm.back (Rn.loadM (rnamB n0) l).1).1.data.length*4≤B;omega
       · show (Bm.back (Rn.loadM (rnamB n0) l).1).1.toks.length*4≤B;omega
theorem kopenB_any (A:Option Addr)(n c:Nat)(d:Dk)(w:World)(a b:Addr)(hT:Kt w a b)(hd:Dsk w A n c d.fs)(hB:Bnd 2097152 d) :
  Calls Tryz.prog 29 #[dkv A n c d.room d.fuse d.off] w (RetO w (openM d)):=by
 have KB:=hid (fun W (q:Q w W)=>kbegin_any A n c d W a b (hT.q q).sen (hd.q q) (mx21 hB))
 by_cases hb:(begM d.fs).2.2=0
 · have KL:=hid (fun W (q:Q w W)=>kload_any A n c d (begM d.fs).2.1 W a b (hT.q q) (hd.q q) hB)
   have hcnt:=loadS_count d.fs (begM d.fs).2.1 hB.sum
   have ho:openM d=opnB d (begM d.fs).1 (begM d.fs).2.1 (loadS d.fs (begM d.fs).2.1):=by unfold openM opnA;rw[if_neg (by simpa using hb)]
   have KB:Hid (∀ W,Q w W→Calls Tryz.prog 68 #[dkv A n c d.room d.fuse d.off] W fun e w'=>e=.returned (.tuple #[.int .i64 (begM d.fs).1,.int .i64 (begM d.fs).2.1,.nilIface])∧Q W w'):=hid (fun W q=>(KB.out W q).mono fun e w' h=>by
    obtain⟨v,h1,h2,h3⟩:=h
    rcases h3 with ⟨_,rfl⟩ | ⟨h3,_⟩
    · exact⟨h1,h2⟩
    · exact absurd hb h3)
   by_cases hl:(loadS d.fs (begM d.fs).2.1).2=0
   · rw[ho,show opnB d (begM d.fs).1 (begM d.fs).2.1 (loadS d.fs (begM d.fs).2.1)=opnC (begM d.fs).1 (begM d.fs).2.1 (loadS d.fs (begM d.fs).2.1).1 (recM d (begM d.fs).1) by unfold opnB;rw[if_neg (by simpa using hl)]]
     refine kopen_mid A n c d _ _ (loadS d.fs (begM d.fs).2.1).1 w a b hT hd hB KB (hid fun W q=>(KL.out W q).mono fun e w' h=>?_) (by omega) (by omega) (recM_le _ _)
     obtain⟨A1,n1,c1,B1,m1,d1,s,v,h1,h2,h3,h4,h5⟩:=h
     rcases h5 with ⟨_,rfl,rfl⟩ | ⟨h5,_⟩
     · exact⟨A1,n1,c1,B1,m1,d1,h1,h2,h3,h4⟩
     · exact absurd hl h5
   · rw[ho,show opnB d (begM d.fs).1 (begM d.fs).2.1 (loadS d.fs (begM d.fs).2.1)=(ks0,3) by unfold opnB;rw[if_pos hl]]
     obtain⟨l,room,fuse,off⟩:=d
     have X0:Hid (Po w A n c ⟨l,room,fuse,off⟩ ((w.alloc (.cells #[.slice A n c,.int .i64 room,.int .i64 fuse,.bool off] 24)).alloc (.cells #[.slice none 0 0,.int .i64 0,.int .i64 0,.bool false,.int .i64 0,.int .i64 0,.int .i64 0,.slice none 0 0,.slice none 0 0,.bool false] 32))):=hid (Po.new hd)
     simp only at KB KL hl
     generalize begM l=bg at KB KL hl
     obtain⟨frm,n0,be⟩:=bg
     simp only at KB KL hl
     generalize loadS l n0=ld at KL hl
     obtain⟨ls,le⟩:=ld
     simp only at KL hl
     clear hT hd hB hb hcnt ho
     go_enter Tryz.func29,Tryz.ntmps29
     go_upto_region 1 with (fail)
     generalize ((w.alloc (.cells #[.slice A n c,.int .i64 room,.int .i64 fuse,.bool off] 24)).alloc (.cells #[.slice none 0 0,.int .i64 0,.int .i64 0,.bool false,.int .i64 0,.int .i64 0,.int .i64 0,.slice none 0 0,.slice none 0 0,.bool false] 32))=W at X0 ⊢
     obtain⟨⟨e0,e1,e2,e3⟩,f0,f1,f2,f3⟩:=X0.out.db.get4
     go_wp2_with fail
     refine(KB.out _ X0.out.q).mono ?_
     rintro e w1 ⟨rfl,q1⟩
     have X1:=hid (X0.out.step q1)
     clear q1 X0 e0 e1 e2 e3 f0 f1 f2 f3
     obtain⟨⟨e0,e1,e2,e3⟩,f0,f1,f2,f3⟩:=X1.out.db.get4
     go_wp2_with fail
     refine(KL.out _ X1.out.q).mono ?_
     rintro e w2 ⟨B1,bn1,bc1,C1,cn1,cc1,s1,v1,rfl,_,_,q2,hv⟩
     rcases hv with ⟨hv,_⟩ | ⟨_,hv⟩
     · exact absurd hv hl
     rcases hv with ⟨_,hv⟩ | ⟨⟨T,u,rfl⟩,_⟩
     · exact absurd hv (by decide)
     have X2:=hid ((X1.out.step q2).step ((Q.refl w2).alloc (.cells #[.slice B1 bn1 bc1,.slice C1 cn1 cc1] 30)))
     clear q2 X1 e0 e1 e2 e3 f0 f1 f2 f3
     have X1:=X2
     clear X2
     go_upto_region 6 with (fail)
     generalize w2.alloc (.cells #[.slice B1 bn1 bc1,.slice C1 cn1 cc1] 30)=W2 at X1 ⊢
     have F0:=X1.out.fin (p:=p0) (x:=ks0) (kr0 _)
     dsimp only[us10,stk,p0,ks0] at F0
     have F:=hid F0
     obtain⟨g0,g1,g2,g3,g4,g5,g6,g7,g8,g9⟩:=kfree X1.out.res
     obtain⟨i0,i1,i2,i3,i4,i5,i6,i7,i8,i9⟩:=kget X1.out.res
     clear X1 F0
     go_wp2
     (try rw[Exit.noGoto_ret])
     obtain⟨r0,r1,r2,r3,r4,r5,r6,r7,r8,r9⟩:=kget F.out.1
     refine bodyPost_ret (v:=.tuple #[kvV p0 ks0,fltW T u 3]) (by simp[results,Tryz.results29,go_sem,r0,r1,r2,r3,r4,r5,r6,r7,r8,r9,p0,ks0]) rfl ?_
     exact⟨_,_,_,rfl,F.out.2.1,F.out.2.2,.inr ⟨⟨T,u,rfl⟩,by decide⟩,fun h=>absurd (show (3:Int)=0 from h) (by decide)⟩
 · rw[show openM d=(ks0,3) by unfold openM opnA;rw[if_pos (by simpa using hb)]]
   obtain⟨l,room,fuse,off⟩:=d
   have X0:Hid (Po w A n c ⟨l,room,fuse,off⟩ ((w.alloc (.cells #[.slice A n c,.int .i64 room,.int .i64 fuse,.bool off] 24)).alloc (.cells #[.slice none 0 0,.int .i64 0,.int .i64 0,.bool false,.int .i64 0,.int .i64 0,.int .i64 0,.slice none 0 0,.slice none 0 0,.bool false] 32))):=hid (Po.new hd)
   simp only at KB hb
   generalize begM l=bg at KB hb
   obtain⟨frm,n0,be⟩:=bg
   simp only at KB hb
   clear hT hd hB
   go_enter Tryz.func29,Tryz.ntmps29
   go_upto_region 1 with (fail)
   generalize ((w.alloc (.cells #[.slice A n c,.int .i64 room,.int .i64 fuse,.bool off] 24)).alloc (.cells #[.slice none 0 0,.int .i64 0,.int .i64 0,.bool false,.int .i64 0,.int .i64 0,.int .i64 0,.slice none 0 0,.slice none 0 0,.bool false] 32))=W at X0 ⊢
   obtain⟨⟨e0,e1,e2,e3⟩,f0,f1,f2,f3⟩:=X0.out.db.get4
   go_wp2_with fail
   refine(KB.out _ X0.out.q).mono ?_
   rintro e w1 ⟨V,rfl,q1,hv⟩
   have X1:=hid (X0.out.step q1)
   clear q1 X0 e0 e1 e2 e3 f0 f1 f2 f3
   rcases hv with ⟨hv,_⟩ | ⟨_,hv⟩
   · exact absurd hv hb
   rcases hv with ⟨_,hv⟩ | ⟨⟨T,u,rfl⟩,_⟩
   · exact absurd hv (by decide)
   have F0:=X1.out.fin (p:=p0) (x:=ks0) (kr0 _)
   dsimp only[us10,stk,p0,ks0] at F0
   have F:=hid F0
   obtain⟨g0,g1,g2,g3,g4,g5,g6,g7,g8,g9⟩:=kfree X1.out.res
   obtain⟨i0,i1,i2,i3,i4,i5,i6,i7,i8,i9⟩:=kget X1.out.res
   clear X1 F0
   go_wp2
   (try rw[Exit.noGoto_ret])
   obtain⟨r0,r1,r2,r3,r4,r5,r6,r7,r8,r9⟩:=kget F.out.1
   refine bodyPost_ret (v:=.tuple #[kvV p0 ks0,fltW T u 3]) (by simp[results,Tryz.results29,go_sem,r0,r1,r2,r3,r4,r5,r6,r7,r8,r9,p0,ks0]) rfl ?_
   exact⟨_,_,_,rfl,F.out.2.1,F.out.2.2,.inr ⟨⟨T,u,rfl⟩,by decide⟩,fun h=>absurd (show (3:Int)=0 from h) (by decide)⟩
theorem kOpenB_any (A:Option Addr)(n c:Nat)(d:Dk)(w:World)(a b:Addr)(hT:Kt w a b)(hd:Dsk w A n c d.fs)(hB:Bnd 2097152 d) :
  Calls Tryz.prog 7 #[dkv A n c d.room d.fuse d.off] w (RetK w (openM d).1 [.int .i64 (openM d).2]):=
 kOpen_of A n c d _ w hT.typ hd (openM_bad d) (hid fun W q=>kopenB_any A n c d W a b (hT.q q) (hd.q q) hB)
end
section

end
section
open Dkm Wm Du
end
end Go.Proofs.YtccoknaaofmbcaaGreatDoor
