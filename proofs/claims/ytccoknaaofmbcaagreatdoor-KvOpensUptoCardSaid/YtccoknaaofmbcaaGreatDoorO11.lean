/- WalPut3, WalCut, WalScan, WalScan2: merged. -/
import Derived.Test.YtccoknaaofmbcaaGreatDoorO10
import Derived.Test.YtccoknaaofmbcaaGreatDoorO4
import Derived.Test.YtccoknaaofmbcaaGreatDoorO3
import Derived.Deep.DeepCutAuto
import Derived.Test.YtccoknaaofmbcaaGreatDoorO1
import Derived.RangeFuncBox
import Derived.RangeFuncNested
import Derived.RangeFuncBound
import Derived.RangeFuncCalls
import Derived.RangeFuncLeaves
import Derived.Shelf.Abstract
import Derived.Shelf.RegionOpen
import Derived.WalkKit
import Derived.OwnWalkIn
import Derived.TacticsInMore
import Derived.LoopNIn
import Derived.LoopIn
import Derived.Maps.AppendAt
import Derived.Test.YtccoknaaofmbcaaGreatDoorO5
set_option linter.unusedVariables false
set_option linter.unusedSimpArgs false
set_option maxRecDepth 100000
set_option maxHeartbeats 16000000
open Go.Lib (hid)
namespace Go.Proofs.YtccoknaaofmbcaaGreatDoor
section
open Go.RowKit Dkm Wm
theorem put_arg (seg:Int)(rec:ByteArray)(A:Option Addr)(n c:Nat)(room fuse:Int)(off:Bool)(l:List Fil)(w:World)(hd:Dsk w A n c l)(h1:¬ segOk seg) :
  Calls Tryz.prog 92 #[dkv A n c room fuse off,.int .i64 seg,.string rec] w fun e w'=>RetW w ⟨l,room,fuse,off⟩ [.int .i64 seg,.int .i64 1] e w':=by
 have HD:=hid hd
 have KU:=hid (numbered_no seg h1)
 clear hd h1
 go_enter Tryz.func92,Tryz.ntmps92
 go_wp2_with fail
 refine(KU.out _).mono ?_
 rintro e w1 ⟨rfl,q1⟩
 have Y:=hid ((Sb.new w A n c room fuse off).step q1)
 clear q1
 obtain⟨⟨e0,e1,e2,e3⟩,f0,f1,f2',f3⟩:=Y.out.get
 go_wp2_with fail
 refine(wown_any A n c room fuse off l _ (HD.out.q Y.out.q)).mono ?_
 rintro e w4 ⟨A4,c4,rfl,ho,q4⟩
 have Z:=hid (And.intro ho q4)
 obtain⟨⟨s0,s1,s2,s3⟩,h0,h1,h2,h3⟩:=(Y.out.step q4).getR
 clear ho q4 e0 e1 e2 e3 f0 f1 f2' f3
 go_wp2
 refine bodyPost_ret (v:=.tuple #[dkv A4 n c4 room fuse off,.int .i64 seg,.int .i64 1]) (by simp[results,Tryz.results92,go_sem,s0,s1,s2,s3]) rfl ?_
 exact Y.out.endW Z.out.2 (d:=⟨l,room,fuse,off⟩) Z.out.1 HD.out.few [.int .i64 seg,.int .i64 1] _ _ _ _
theorem put_big (seg:Int)(rec:ByteArray)(A:Option Addr)(n c:Nat)(room fuse:Int)(off:Bool)(l:List Fil)(w:World)(hd:Dsk w A n c l)(h1:segOk seg)(h2:2048<rec.size)(h3:rec.size≤maxLen) :
  Calls Tryz.prog 92 #[dkv A n c room fuse off,.int .i64 seg,.string rec] w fun e w'=>RetW w ⟨l,room,fuse,off⟩ [.int .i64 seg,.int .i64 4] e w':=by
 have HD:=hid hd
 have KU:=hid (numbered_yes seg h1)
 clear hd h1
 go_enter Tryz.func92,Tryz.ntmps92
 go_wp2_with fail
 refine(KU.out _).mono ?_
 rintro e w1 ⟨rfl,q1⟩
 have Y:=hid ((Sb.new w A n c room fuse off).step q1)
 clear q1
 obtain⟨⟨e0,e1,e2,e3⟩,f0,f1,f2',f3⟩:=Y.out.get
 go_wp2_with fail
 refine(wown_any A n c room fuse off l _ (HD.out.q Y.out.q)).mono ?_
 rintro e w4 ⟨A4,c4,rfl,ho,q4⟩
 have Z:=hid (And.intro ho q4)
 obtain⟨⟨s0,s1,s2,s3⟩,h0,h1,h2,h3⟩:=(Y.out.step q4).getR
 clear ho q4 e0 e1 e2 e3 f0 f1 f2' f3
 go_wp2
 refine bodyPost_ret (v:=.tuple #[dkv A4 n c4 room fuse off,.int .i64 seg,.int .i64 4]) (by simp[results,Tryz.results92,go_sem,s0,s1,s2,s3]) rfl ?_
 exact Y.out.endW Z.out.2 (d:=⟨l,room,fuse,off⟩) Z.out.1 HD.out.few [.int .i64 seg,.int .i64 4] _ _ _ _
theorem put_serr (seg:Int)(rec:ByteArray)(A:Option Addr)(n c:Nat)(d:Dk)(w:World)(hT:Tab w)(hd:Dsk w A n c d.fs)(hB:Bnd 2305843009213693952 d)(h1:segOk seg)(h2:rec.size≤2048)(h3:256≤(redd (namB seg) d.fs).1.size)(he:(syn d (namB seg)).2≠0) :
  Calls Tryz.prog 92 #[dkv A n c d.room d.fuse d.off,.int .i64 seg,.string rec] w fun e w'=>RetW w (((syn d (namB seg)).1,seg,(syn d (namB seg)).2)).1 [.int .i64 (((syn d (namB seg)).1,seg,(syn d (namB seg)).2)).2.1,.int .i64 (((syn d (namB seg)).1,seg,(syn d (namB seg)).2)).2.2] e w':=by
 obtain⟨l,room,fuse,off⟩:=d
 have HT:=hid hT
 have HD:=hid hd
 have HN:=hid hd.max
 have hmx:∀ f∈l,f.sf.size+f.wt.size≤maxLen:=fun f hf=>Nat.le_trans (hB.sum f hf) (by unfold maxLen;omega)
 have hBs:=hB.syn (namB seg)
 have hal:=syn_len ⟨l,room,fuse,off⟩ (namB seg)
 have KS:=hid (fun w hd=>sync_any (namB seg) A n c ⟨l,room,fuse,off⟩ w hd hmx)
 have KR:=hid (fun w hf=>read_any (namB seg) A n c room fuse off l w hf HN.out hmx)
 have KN:=hid (name_any seg)
 have KU:=hid (numbered_yes seg h1)
 generalize syn ⟨l,room,fuse,off⟩ (namB seg)=r at hal KS hBs he ⊢
 obtain⟨⟨l2,room2,fuse2,off2⟩,er⟩:=r
 have he':¬ er=0:=he
 have h3':256≤(redd (namB seg) l).1.size:=h3
 generalize redd (namB seg) l=b at KR h3'
 obtain⟨b,be⟩:=b
 have t3:256≤b.size:=h3'
 clear hT hd hB hmx h1 h3 h3' he
 go_enter Tryz.func92,Tryz.ntmps92
 go_wp2_with fail
 refine(KU.out _).mono ?_
 rintro e w1 ⟨rfl,q1⟩
 have X:=hid ((Sb.new w A n c room fuse off).step q1)
 clear q1
 go_upto_region 5 with (fail)
 obtain⟨⟨e0,e1,e2,e3⟩,f0,f1,f2',f3⟩:=X.out.get
 go_region_held3 (fun w'=>w'.cell? ⟨w.heap.size,0,none⟩=some (.slice A n c)∧w'.cell? ⟨w.heap.size,1,none⟩=some (.int .i64 room)∧w'.cell? ⟨w.heap.size,2,none⟩=some (.int .i64 fuse)∧w'.cell? ⟨w.heap.size,3,none⟩=some (.bool off))
   (first
     | go_keep
     | (go_split_ands
        (repeat' apply And.intro)<;>exact box_ ‹Q _ _› (by assumption)))
   (first
     | (go_at_call 121
        (with_reducible refine(KN.out _ (HT.out.q (X.out.q.trans (Q.refl w1).drew))).mono ?_)
        rintro e w2 ⟨rfl,q2⟩)
     | (go_at_call 115
        (with_reducible refine(KR.out _ (HD.out.files.q (X.out.q.trans ((Q.refl w1).drew.trans q2)))).mono ?_)
        rintro e w3 ⟨rfl,q3⟩))
 have Y:=hid (X.out.step (((Q.refl w1).drew.trans q2).trans q3))
 clear X q2 q3 e0 e1 e2 e3 f0 f1 f2' f3
 have DW:=hid (HD.out.q Y.out.q)
 obtain⟨⟨e0,e1,e2,e3⟩,f0,f1,f2',f3⟩:=Y.out.get
 go_upto_region 8 with (fail)
 generalize w3=W at Y DW e0 e1 e2 e3 f0 f1 f2' f3 ⊢
 have QW:=hid (Q.refl W)
 refine wp_region_heldL 7 (Q W) (by kernel_rfl) ?szz0 (fun hHeld=>?rzz0)
 case szz0 =>
  exact(Q.refl W).drew
 refine takeL 0 ?v1 ?y1 ?_
 case y1=>intro w hSw;have x0:=box_ hSw e0;have x1:=box_ hSw e1;have x2:=box_ hSw e2;have x3:=box_ hSw e3;clear hSw;go_simp;try with_reducible rfl
 refine takL 1 ?_
 refine oneL 2 (fun K hK=>?_)
 go_simp
 refine(KN.out _ (HT.out.q (Y.out.q.trans hHeld))).mono ?_
 rintro e w3 ⟨rfl,q3⟩
 go_wp2_with fail
 refine hK.out _ _ (hHeld.trans q3) (fun hHeld=>?_)
 clear hK K
 try simp only[Act.put,sA,sB,sC]
 refine oneL 3 (fun K hK=>?_)
 go_simp
 refine(KS.out _ (DW.out.q hHeld)).mono ?_
 rintro e w5 ⟨A5,n5,c5,rfl,ho,q5⟩
 obtain⟨⟨x0,x1,x2,x3⟩,y0,y1,y2,y3⟩:=((Y.out.step hHeld).step q5).get
 have Z5:=hid (And.intro ho (And.intro hHeld q5))
 go_wp2_with fail
 refine hK.out _ _ (hHeld.trans q5) (fun hHeld=>?_)
 clear hK K
 try simp only[Act.put,sA,sB,sC]
 refine takL 4 ?_
 refine takL 5 ?_
 refine wpAnyL_ready (rs:=[6,7]) (by kernel_rfl) (by simp) ?_
 refine consL (fun K hK=>?kzz9) ?_
 case kzz9 =>
  go_simp
  refine hK.out _ _ (hHeld) (fun hHeld=>?_)
  clear hK K
  try simp only[Act.put,sA,sB,sC]
  refine oneK (fun K hK=>?_)
  go_simp
  refine hK.out _ _ ?_
  clear hK K
  try simp only[Act.put,sA,sB,sC]
  refine takH 8 ?_
  refine doneH ?_
  have hn5:n5*48≤140737488355328:=by have h1:=Z5.out.1.len;have h2:=HD.out.len;have h3:=HD.out.few;have h4:l2.length=l.length:=hal;have h5:l2.length=n5:=h1;omega
  have D1:=hid (Sd.new2 (room:=room2) (fuse:=fuse2) (off:=off2) (L:=l2) (Y.out.step Z5.out.2.1) Z5.out.2.2 Z5.out.1)
  clear e0 e1 e2 e3 f0 f1 f2' f3 x0 x1 x2 x3 y0 y1 y2 y3
  generalize ((((w5.setCell ⟨w.heap.size,0,none⟩ (.slice A5 n5 c5)).setCell ⟨w.heap.size,1,none⟩ (.int .i64 room2)).setCell ⟨w.heap.size,2,none⟩ (.int .i64 fuse2)).setCell ⟨w.heap.size,3,none⟩ (.bool off2))=V at D1 ⊢
  obtain⟨⟨e0,e1,e2,e3⟩,f0,f1,f2',f3⟩:=D1.out.sb.get
  obtain⟨⟨s0,s1,s2,s3⟩,h0,h1,h2,h3⟩:=D1.out.sb.getR
  go_wp2
  refine bodyPost_ret (v:=.tuple #[dkv A5 n5 c5 room2 fuse2 off2,.int .i64 seg,.int .i64 er]) (by simp[results,Tryz.results92,go_sem,s0,s1,s2,s3]) rfl ?_
  exact D1.out.endW hn5 [.int .i64 seg,.int .i64 er] _ _ _ _
 refine consK (fun K hK=>?_) AllReadyL.nil
 go_simp
 refine hK.out _ _ ?_
 clear hK K
 try simp only[Act.put,sA,sB,sC]
 refine takH 6 ?_
 refine takH 8 ?_
 refine doneH ?_
 have hn5:n5*48≤140737488355328:=by have h1:=Z5.out.1.len;have h2:=HD.out.len;have h3:=HD.out.few;have h4:l2.length=l.length:=hal;have h5:l2.length=n5:=h1;omega
 have D1:=hid (Sd.new2 (room:=room2) (fuse:=fuse2) (off:=off2) (L:=l2) (Y.out.step Z5.out.2.1) Z5.out.2.2 Z5.out.1)
 clear e0 e1 e2 e3 f0 f1 f2' f3 x0 x1 x2 x3 y0 y1 y2 y3
 generalize ((((w5.setCell ⟨w.heap.size,0,none⟩ (.slice A5 n5 c5)).setCell ⟨w.heap.size,1,none⟩ (.int .i64 room2)).setCell ⟨w.heap.size,2,none⟩ (.int .i64 fuse2)).setCell ⟨w.heap.size,3,none⟩ (.bool off2))=V at D1 ⊢
 obtain⟨⟨e0,e1,e2,e3⟩,f0,f1,f2',f3⟩:=D1.out.sb.get
 obtain⟨⟨s0,s1,s2,s3⟩,h0,h1,h2,h3⟩:=D1.out.sb.getR
 go_wp2
 refine bodyPost_ret (v:=.tuple #[dkv A5 n5 c5 room2 fuse2 off2,.int .i64 seg,.int .i64 er]) (by simp[results,Tryz.results92,go_sem,s0,s1,s2,s3]) rfl ?_
 exact D1.out.endW hn5 [.int .i64 seg,.int .i64 er] _ _ _ _
theorem put_full (seg:Int)(rec:ByteArray)(A:Option Addr)(n c:Nat)(d:Dk)(w:World)(hT:Tab w)(hd:Dsk w A n c d.fs)(hB:Bnd 2305843009213693952 d)(h1:segOk seg)(h2:rec.size≤2048)(h3:256≤(redd (namB seg) d.fs).1.size)(he:(syn d (namB seg)).2=0)(hf:seg=1000000) :
  Calls Tryz.prog 92 #[dkv A n c d.room d.fuse d.off,.int .i64 seg,.string rec] w fun e w'=>RetW w (((syn d (namB seg)).1,seg,5)).1 [.int .i64 (((syn d (namB seg)).1,seg,5)).2.1,.int .i64 (((syn d (namB seg)).1,seg,5)).2.2] e w':=by
 obtain⟨l,room,fuse,off⟩:=d
 have HT:=hid hT
 have HD:=hid hd
 have HN:=hid hd.max
 have hmx:∀ f∈l,f.sf.size+f.wt.size≤maxLen:=fun f hf=>Nat.le_trans (hB.sum f hf) (by unfold maxLen;omega)
 have hBs:=hB.syn (namB seg)
 have hal:=syn_len ⟨l,room,fuse,off⟩ (namB seg)
 have KS:=hid (fun w hd=>sync_any (namB seg) A n c ⟨l,room,fuse,off⟩ w hd hmx)
 have KR:=hid (fun w hf=>read_any (namB seg) A n c room fuse off l w hf HN.out hmx)
 have KN:=hid (name_any seg)
 have KU:=hid (numbered_yes seg h1)
 have KU2:=hid (numbered_no (seg+1) (by unfold segOk;omega))
 have r0:=h1.1
 have r1:=h1.2
 clear hf
 generalize syn ⟨l,room,fuse,off⟩ (namB seg)=r at hal KS hBs he ⊢
 obtain⟨⟨l2,room2,fuse2,off2⟩,er⟩:=r
 have he':er=0:=he
 have h3':256≤(redd (namB seg) l).1.size:=h3
 generalize redd (namB seg) l=b at KR h3'
 obtain⟨b,be⟩:=b
 have t3:256≤b.size:=h3'
 clear hT hd hB hmx h1 h3 h3' he
 go_enter Tryz.func92,Tryz.ntmps92
 go_wp2_with fail
 refine(KU.out _).mono ?_
 rintro e w1 ⟨rfl,q1⟩
 have X:=hid ((Sb.new w A n c room fuse off).step q1)
 clear q1
 go_upto_region 5 with (fail)
 obtain⟨⟨e0,e1,e2,e3⟩,f0,f1,f2',f3⟩:=X.out.get
 go_region_held3 (fun w'=>w'.cell? ⟨w.heap.size,0,none⟩=some (.slice A n c)∧w'.cell? ⟨w.heap.size,1,none⟩=some (.int .i64 room)∧w'.cell? ⟨w.heap.size,2,none⟩=some (.int .i64 fuse)∧w'.cell? ⟨w.heap.size,3,none⟩=some (.bool off))
   (first
     | go_keep
     | (go_split_ands
        (repeat' apply And.intro)<;>exact box_ ‹Q _ _› (by assumption)))
   (first
     | (go_at_call 121
        (with_reducible refine(KN.out _ (HT.out.q (X.out.q.trans (Q.refl w1).drew))).mono ?_)
        rintro e w2 ⟨rfl,q2⟩)
     | (go_at_call 115
        (with_reducible refine(KR.out _ (HD.out.files.q (X.out.q.trans ((Q.refl w1).drew.trans q2)))).mono ?_)
        rintro e w3 ⟨rfl,q3⟩))
 have Y:=hid (X.out.step (((Q.refl w1).drew.trans q2).trans q3))
 clear X q2 q3 e0 e1 e2 e3 f0 f1 f2' f3
 have DW:=hid (HD.out.q Y.out.q)
 obtain⟨⟨e0,e1,e2,e3⟩,f0,f1,f2',f3⟩:=Y.out.get
 go_upto_region 8 with (fail)
 generalize w3=W at Y DW e0 e1 e2 e3 f0 f1 f2' f3 ⊢
 have QW:=hid (Q.refl W)
 refine wp_region_heldL 7 (Q W) (by kernel_rfl) ?szz13 (fun hHeld=>?rzz13)
 case szz13 =>
  exact(Q.refl W).drew
 refine takeL 0 ?v14 ?y14 ?_
 case y14=>intro w hSw;have x0:=box_ hSw e0;have x1:=box_ hSw e1;have x2:=box_ hSw e2;have x3:=box_ hSw e3;clear hSw;go_simp;try with_reducible rfl
 refine takL 1 ?_
 refine oneL 2 (fun K hK=>?_)
 go_simp
 refine(KN.out _ (HT.out.q (Y.out.q.trans hHeld))).mono ?_
 rintro e w3 ⟨rfl,q3⟩
 go_wp2_with fail
 refine hK.out _ _ (hHeld.trans q3) (fun hHeld=>?_)
 clear hK K
 try simp only[Act.put,sA,sB,sC]
 refine oneL 3 (fun K hK=>?_)
 go_simp
 refine(KS.out _ (DW.out.q hHeld)).mono ?_
 rintro e w5 ⟨A5,n5,c5,rfl,ho,q5⟩
 obtain⟨⟨x0,x1,x2,x3⟩,y0,y1,y2,y3⟩:=((Y.out.step hHeld).step q5).get
 have Z5:=hid (And.intro ho (And.intro hHeld q5))
 go_wp2_with fail
 refine hK.out _ _ (hHeld.trans q5) (fun hHeld=>?_)
 clear hK K
 try simp only[Act.put,sA,sB,sC]
 refine takL 4 ?_
 refine takL 5 ?_
 refine wpAnyL_ready (rs:=[6,7]) (by kernel_rfl) (by simp) ?_
 refine consL (fun K hK=>?kzz22) ?_
 case kzz22 =>
  go_simp
  refine hK.out _ _ (hHeld) (fun hHeld=>?_)
  clear hK K
  try simp only[Act.put,sA,sB,sC]
  refine oneK (fun K hK=>?_)
  go_simp
  refine hK.out _ _ ?_
  clear hK K
  try simp only[Act.put,sA,sB,sC]
  refine takH 8 ?_
  refine doneH ?_
  have hn5:n5*48≤140737488355328:=by have h1:=Z5.out.1.len;have h2:=HD.out.len;have h3:=HD.out.few;have h4:l2.length=l.length:=hal;have h5:l2.length=n5:=h1;omega
  have D1:=hid (Sd.new2 (room:=room2) (fuse:=fuse2) (off:=off2) (L:=l2) (Y.out.step Z5.out.2.1) Z5.out.2.2 Z5.out.1)
  clear e0 e1 e2 e3 f0 f1 f2' f3 x0 x1 x2 x3 y0 y1 y2 y3
  generalize ((((w5.setCell ⟨w.heap.size,0,none⟩ (.slice A5 n5 c5)).setCell ⟨w.heap.size,1,none⟩ (.int .i64 room2)).setCell ⟨w.heap.size,2,none⟩ (.int .i64 fuse2)).setCell ⟨w.heap.size,3,none⟩ (.bool off2))=V at D1 ⊢
  obtain⟨⟨e0,e1,e2,e3⟩,f0,f1,f2',f3⟩:=D1.out.sb.get
  obtain⟨⟨s0,s1,s2,s3⟩,h0,h1,h2,h3⟩:=D1.out.sb.getR
  subst he'
  go_wp2_with fail
  refine(KU2.out _).mono ?_
  rintro e w7 ⟨rfl,q7⟩
  have D2:=hid (Sd.mk (D1.out.sb.step q7) (D1.out.own.q q7))
  clear D1 e0 e1 e2 e3 f0 f1 f2' f3 s0 s1 s2 s3 h0 h1 h2 h3
  have D1:=D2
  clear D2
  obtain⟨⟨e0,e1,e2,e3⟩,f0,f1,f2',f3⟩:=D1.out.sb.get
  obtain⟨⟨s0,s1,s2,s3⟩,h0,h1,h2,h3⟩:=D1.out.sb.getR
  go_wp2
  refine bodyPost_ret (v:=.tuple #[dkv A5 n5 c5 room2 fuse2 off2,.int .i64 seg,.int .i64 5]) (by simp[results,Tryz.results92,go_sem,s0,s1,s2,s3]) rfl ?_
  exact D1.out.endW hn5 [.int .i64 seg,.int .i64 5] _ _ _ _
 refine consK (fun K hK=>?_) AllReadyL.nil
 go_simp
 refine hK.out _ _ ?_
 clear hK K
 try simp only[Act.put,sA,sB,sC]
 refine takH 6 ?_
 refine takH 8 ?_
 refine doneH ?_
 have hn5:n5*48≤140737488355328:=by have h1:=Z5.out.1.len;have h2:=HD.out.len;have h3:=HD.out.few;have h4:l2.length=l.length:=hal;have h5:l2.length=n5:=h1;omega
 have D1:=hid (Sd.new2 (room:=room2) (fuse:=fuse2) (off:=off2) (L:=l2) (Y.out.step Z5.out.2.1) Z5.out.2.2 Z5.out.1)
 clear e0 e1 e2 e3 f0 f1 f2' f3 x0 x1 x2 x3 y0 y1 y2 y3
 generalize ((((w5.setCell ⟨w.heap.size,0,none⟩ (.slice A5 n5 c5)).setCell ⟨w.heap.size,1,none⟩ (.int .i64 room2)).setCell ⟨w.heap.size,2,none⟩ (.int .i64 fuse2)).setCell ⟨w.heap.size,3,none⟩ (.bool off2))=V at D1 ⊢
 obtain⟨⟨e0,e1,e2,e3⟩,f0,f1,f2',f3⟩:=D1.out.sb.get
 obtain⟨⟨s0,s1,s2,s3⟩,h0,h1,h2,h3⟩:=D1.out.sb.getR
 subst he'
 go_wp2_with fail
 refine(KU2.out _).mono ?_
 rintro e w7 ⟨rfl,q7⟩
 have D2:=hid (Sd.mk (D1.out.sb.step q7) (D1.out.own.q q7))
 clear D1 e0 e1 e2 e3 f0 f1 f2' f3 s0 s1 s2 s3 h0 h1 h2 h3
 have D1:=D2
 clear D2
 obtain⟨⟨e0,e1,e2,e3⟩,f0,f1,f2',f3⟩:=D1.out.sb.get
 obtain⟨⟨s0,s1,s2,s3⟩,h0,h1,h2,h3⟩:=D1.out.sb.getR
 go_wp2
 refine bodyPost_ret (v:=.tuple #[dkv A5 n5 c5 room2 fuse2 off2,.int .i64 seg,.int .i64 5]) (by simp[results,Tryz.results92,go_sem,s0,s1,s2,s3]) rfl ?_
 exact D1.out.endW hn5 [.int .i64 seg,.int .i64 5] _ _ _ _
theorem put_next (seg:Int)(rec:ByteArray)(A:Option Addr)(n c:Nat)(d:Dk)(w:World)(hT:Tab w)(hd:Dsk w A n c d.fs)(hB:Bnd 2305843009213693952 d)(h1:segOk seg)(h2:rec.size≤2048)(h3:256≤(redd (namB seg) d.fs).1.size)(he:(syn d (namB seg)).2=0)(hf:¬ seg=1000000) :
  Calls Tryz.prog 92 #[dkv A n c d.room d.fuse d.off,.int .i64 seg,.string rec] w fun e w'=>RetW w (putA (syn d (namB seg)).1 (seg+1) rec).1 [.int .i64 (putA (syn d (namB seg)).1 (seg+1) rec).2.1,.int .i64 (putA (syn d (namB seg)).1 (seg+1) rec).2.2] e w':=by
 obtain⟨l,room,fuse,off⟩:=d
 have HT:=hid hT
 have HD:=hid hd
 have HN:=hid hd.max
 have hmx:∀ f∈l,f.sf.size+f.wt.size≤maxLen:=fun f hf=>Nat.le_trans (hB.sum f hf) (by unfold maxLen;omega)
 have hBs:=hB.syn (namB seg)
 have hal:=syn_len ⟨l,room,fuse,off⟩ (namB seg)
 have KS:=hid (fun w hd=>sync_any (namB seg) A n c ⟨l,room,fuse,off⟩ w hd hmx)
 have KR:=hid (fun w hf=>read_any (namB seg) A n c room fuse off l w hf HN.out hmx)
 have KN:=hid (name_any seg)
 have KU:=hid (numbered_yes seg h1)
 have h1s:segOk (seg+1):=by have h4:=h1.1;have h5:=h1.2;unfold segOk;omega
 have r0:=h1.1
 have r1:=h1.2
 have KU2:=hid (numbered_yes (seg+1) h1s)
 have KN2:=hid (name_any (seg+1))
 have hsb:(sealB rec).size≤2305843009213693952:=by rw[sealB_size];have:=sld_length rec.data.toList (by rw[size_list];omega);rw[size_list] at this;omega
 have KA2:=hid (fun (A:Option Addr) n c w hd=>append_any (namB (seg+1)) (sealB rec) A n c (syn ⟨l,room,fuse,off⟩ (namB seg)).1 w hd hBs.sum hsb hBs.room.2 hBs.fuse.2)
 have KL:=hid (fun w=>seal_any rec w (by omega))
 change Hid (∀ w,Calls _ _ _ w fun e w'=>e=.returned (.string (sealB rec))∧Q w w') at KL
 unfold putA
 have hal2:=appd_few (syn ⟨l,room,fuse,off⟩ (namB seg)).1 (namB (seg+1)) (sealB rec)
 generalize syn ⟨l,room,fuse,off⟩ (namB seg)=r at hal KS hBs he KA2 hal2 ⊢
 obtain⟨⟨l2,room2,fuse2,off2⟩,er⟩:=r
 dsimp only at KA2 hal2 ⊢
 generalize appd ⟨l2,room2,fuse2,off2⟩ (namB (seg+1)) (sealB rec)=r2 at KA2 hal2 ⊢
 generalize sealB rec=sr at KA2 KL
 clear hsb
 have he':er=0:=he
 have h3':256≤(redd (namB seg) l).1.size:=h3
 generalize redd (namB seg) l=b at KR h3'
 obtain⟨b,be⟩:=b
 have t3:256≤b.size:=h3'
 clear hT hd hB hmx h1 h3 h3' he
 go_enter Tryz.func92,Tryz.ntmps92
 go_wp2_with fail
 refine(KU.out _).mono ?_
 rintro e w1 ⟨rfl,q1⟩
 have X:=hid ((Sb.new w A n c room fuse off).step q1)
 clear q1
 go_upto_region 5 with (fail)
 obtain⟨⟨e0,e1,e2,e3⟩,f0,f1,f2',f3⟩:=X.out.get
 go_region_held3 (fun w'=>w'.cell? ⟨w.heap.size,0,none⟩=some (.slice A n c)∧w'.cell? ⟨w.heap.size,1,none⟩=some (.int .i64 room)∧w'.cell? ⟨w.heap.size,2,none⟩=some (.int .i64 fuse)∧w'.cell? ⟨w.heap.size,3,none⟩=some (.bool off))
   (first
     | go_keep
     | (go_split_ands
        (repeat' apply And.intro)<;>exact box_ ‹Q _ _› (by assumption)))
   (first
     | (go_at_call 121
        (with_reducible refine(KN.out _ (HT.out.q (X.out.q.trans (Q.refl w1).drew))).mono ?_)
        rintro e w2 ⟨rfl,q2⟩)
     | (go_at_call 115
        (with_reducible refine(KR.out _ (HD.out.files.q (X.out.q.trans ((Q.refl w1).drew.trans q2)))).mono ?_)
        rintro e w3 ⟨rfl,q3⟩))
 have Y:=hid (X.out.step (((Q.refl w1).drew.trans q2).trans q3))
 clear X q2 q3 e0 e1 e2 e3 f0 f1 f2' f3
 have DW:=hid (HD.out.q Y.out.q)
 obtain⟨⟨e0,e1,e2,e3⟩,f0,f1,f2',f3⟩:=Y.out.get
 go_upto_region 8 with (fail)
 generalize w3=W at Y DW e0 e1 e2 e3 f0 f1 f2' f3 ⊢
 have QW:=hid (Q.refl W)
 refine wp_region_heldL 7 (Q W) (by kernel_rfl) ?szz26 (fun hHeld=>?rzz26)
 case szz26 =>
  exact(Q.refl W).drew
 refine takeL 0 ?v27 ?y27 ?_
 case y27=>intro w hSw;have x0:=box_ hSw e0;have x1:=box_ hSw e1;have x2:=box_ hSw e2;have x3:=box_ hSw e3;clear hSw;go_simp;try with_reducible rfl
 refine takL 1 ?_
 refine oneL 2 (fun K hK=>?_)
 go_simp
 refine(KN.out _ (HT.out.q (Y.out.q.trans hHeld))).mono ?_
 rintro e w3 ⟨rfl,q3⟩
 go_wp2_with fail
 refine hK.out _ _ (hHeld.trans q3) (fun hHeld=>?_)
 clear hK K
 try simp only[Act.put,sA,sB,sC]
 refine oneL 3 (fun K hK=>?_)
 go_simp
 refine(KS.out _ (DW.out.q hHeld)).mono ?_
 rintro e w5 ⟨A5,n5,c5,rfl,ho,q5⟩
 obtain⟨⟨x0,x1,x2,x3⟩,y0,y1,y2,y3⟩:=((Y.out.step hHeld).step q5).get
 have Z5:=hid (And.intro ho (And.intro hHeld q5))
 go_wp2_with fail
 refine hK.out _ _ (hHeld.trans q5) (fun hHeld=>?_)
 clear hK K
 try simp only[Act.put,sA,sB,sC]
 refine takL 4 ?_
 refine takL 5 ?_
 refine wpAnyL_ready (rs:=[6,7]) (by kernel_rfl) (by simp) ?_
 refine consL (fun K hK=>?kzz65) ?_
 case kzz65 =>
  go_simp
  refine hK.out _ _ (hHeld) (fun hHeld=>?_)
  clear hK K
  try simp only[Act.put,sA,sB,sC]
  refine oneK (fun K hK=>?_)
  go_simp
  refine hK.out _ _ ?_
  clear hK K
  try simp only[Act.put,sA,sB,sC]
  refine takH 8 ?_
  refine doneH ?_
  have hn5:n5*48≤140737488355328:=by have h1:=Z5.out.1.len;have h2:=HD.out.len;have h3:=HD.out.few;have h4:l2.length=l.length:=hal;have h5:l2.length=n5:=h1;omega
  have D1:=hid (Sd.new2 (room:=room2) (fuse:=fuse2) (off:=off2) (L:=l2) (Y.out.step Z5.out.2.1) Z5.out.2.2 Z5.out.1)
  clear e0 e1 e2 e3 f0 f1 f2' f3 x0 x1 x2 x3 y0 y1 y2 y3
  generalize ((((w5.setCell ⟨w.heap.size,0,none⟩ (.slice A5 n5 c5)).setCell ⟨w.heap.size,1,none⟩ (.int .i64 room2)).setCell ⟨w.heap.size,2,none⟩ (.int .i64 fuse2)).setCell ⟨w.heap.size,3,none⟩ (.bool off2))=V at D1 ⊢
  obtain⟨⟨e0,e1,e2,e3⟩,f0,f1,f2',f3⟩:=D1.out.sb.get
  obtain⟨⟨s0,s1,s2,s3⟩,h0,h1,h2,h3⟩:=D1.out.sb.getR
  subst he'
  go_wp2_with fail
  refine(KU2.out _).mono ?_
  rintro e w7 ⟨rfl,q7⟩
  have D2:=hid (Sd.mk (D1.out.sb.step q7) (D1.out.own.q q7))
  clear D1 e0 e1 e2 e3 f0 f1 f2' f3 s0 s1 s2 s3 h0 h1 h2 h3
  have D1:=D2
  clear D2
  obtain⟨⟨e0,e1,e2,e3⟩,f0,f1,f2',f3⟩:=D1.out.sb.get
  obtain⟨⟨s0,s1,s2,s3⟩,h0,h1,h2,h3⟩:=D1.out.sb.getR
  go_upto_region 14 with (fail)
  have D3:=hid D1.out.sb
  have DW3:=hid (D1.out.own.dsk hn5)
  clear s0 s1 s2 s3 h0 h1 h2 h3 DW Y Z5
  generalize w7=W at D3 DW3 e0 e1 e2 e3 f0 f1 f2' f3 ⊢
  have QW:=hid (Q.refl W)
  refine wp_region_heldL 9 (Q W) (by kernel_rfl) ?szz32 (fun hHeld=>?rzz32)
  case szz32 =>
   exact(Q.refl W).drew
  refine takeL 0 ?v33 ?y33 ?_
  case y33=>intro w hSw;have x0:=box_ hSw e0;have x1:=box_ hSw e1;have x2:=box_ hSw e2;have x3:=box_ hSw e3;clear hSw;go_simp;try with_reducible rfl
  refine takL 1 ?_
  refine takL 3 ?_
  refine oneL 2 (fun K hK=>?_)
  go_simp
  refine(KN2.out _ (HT.out.q (D3.out.q.trans hHeld))).mono ?_
  rintro e w3 ⟨rfl,q3⟩
  go_wp2_with fail
  refine hK.out _ _ (hHeld.trans q3) (fun hHeld=>?_)
  clear hK K
  try simp only[Act.put,sA,sB,sC]
  refine oneL 4 (fun K hK=>?_)
  go_simp
  refine(KL.out _).mono ?_
  rintro e w4 ⟨rfl,q4⟩
  go_wp2_with fail
  refine hK.out _ _ (hHeld.trans q4) (fun hHeld=>?_)
  clear hK K
  try simp only[Act.put,sA,sB,sC]
  refine oneL 5 (fun K hK=>?_)
  go_simp
  refine(KA2.out _ _ _ _ (DW3.out.q hHeld)).mono ?_
  rintro e w6 ⟨A6,n6,c6,rfl,ho,q6⟩
  obtain⟨⟨x0,x1,x2,x3⟩,y0,y1,y2,y3⟩:=((D3.out.step hHeld).step q6).get
  have Z6:=hid (And.intro ho (And.intro hHeld q6))
  go_wp2_with fail
  refine hK.out _ _ (hHeld.trans q6) (fun hHeld=>?_)
  clear hK K
  try simp only[Act.put,sA,sB,sC]
  refine takL 6 ?_
  refine takL 7 ?_
  refine wpAnyL_ready (rs:=[8,9]) (by kernel_rfl) (by simp) ?_
  refine consL (fun K hK=>?kzz42) ?_
  case kzz42 =>
   go_simp
   refine hK.out _ _ (hHeld) (fun hHeld=>?_)
   clear hK K
   try simp only[Act.put,sA,sB,sC]
   refine oneK (fun K hK=>?_)
   go_simp
   refine hK.out _ _ ?_
   clear hK K
   try simp only[Act.put,sA,sB,sC]
   refine takH 10 ?_
   refine doneH ?_
   have hn6:n6*48≤140737488355328:=by have h1:=Z6.out.1.len;have h2:=HD.out.len;have h3:=HD.out.few;have h4:l2.length=l.length:=hal;have h5:r2.1.fs.length≤max l2.length 64:=hal2;omega
   have D4:=hid (Sd.new2 (room:=r2.1.room) (fuse:=r2.1.fuse) (off:=r2.1.off) (L:=r2.1.fs) (D3.out.step Z6.out.2.1) Z6.out.2.2 Z6.out.1)
   clear e0 e1 e2 e3 f0 f1 f2' f3 x0 x1 x2 x3 y0 y1 y2 y3
   generalize ((((w6.setCell ⟨w.heap.size,0,none⟩ (.slice A6 n6 c6)).setCell ⟨w.heap.size,1,none⟩ (.int .i64 r2.1.room)).setCell ⟨w.heap.size,2,none⟩ (.int .i64 r2.1.fuse)).setCell ⟨w.heap.size,3,none⟩ (.bool r2.1.off))=V at D4 ⊢
   obtain⟨⟨e0,e1,e2,e3⟩,f0,f1,f2',f3⟩:=D4.out.sb.get
   obtain⟨⟨s0,s1,s2,s3⟩,h0,h1,h2,h3⟩:=D4.out.sb.getR
   go_wp2
   refine bodyPost_ret (v:=.tuple #[dkv A6 n6 c6 r2.1.room r2.1.fuse r2.1.off,.int .i64 (seg+1),.int .i64 r2.2]) (by simp[results,Tryz.results92,go_sem,s0,s1,s2,s3]) rfl ?_
   exact D4.out.endW hn6 [.int .i64 (seg+1),.int .i64 r2.2] _ _ _ _
  refine consK (fun K hK=>?_) AllReadyL.nil
  go_simp
  refine hK.out _ _ ?_
  clear hK K
  try simp only[Act.put,sA,sB,sC]
  refine takH 8 ?_
  refine takH 10 ?_
  refine doneH ?_
  have hn6:n6*48≤140737488355328:=by have h1:=Z6.out.1.len;have h2:=HD.out.len;have h3:=HD.out.few;have h4:l2.length=l.length:=hal;have h5:r2.1.fs.length≤max l2.length 64:=hal2;omega
  have D4:=hid (Sd.new2 (room:=r2.1.room) (fuse:=r2.1.fuse) (off:=r2.1.off) (L:=r2.1.fs) (D3.out.step Z6.out.2.1) Z6.out.2.2 Z6.out.1)
  clear e0 e1 e2 e3 f0 f1 f2' f3 x0 x1 x2 x3 y0 y1 y2 y3
  generalize ((((w6.setCell ⟨w.heap.size,0,none⟩ (.slice A6 n6 c6)).setCell ⟨w.heap.size,1,none⟩ (.int .i64 r2.1.room)).setCell ⟨w.heap.size,2,none⟩ (.int .i64 r2.1.fuse)).setCell ⟨w.heap.size,3,none⟩ (.bool r2.1.off))=V at D4 ⊢
  obtain⟨⟨e0,e1,e2,e3⟩,f0,f1,f2',f3⟩:=D4.out.sb.get
  obtain⟨⟨s0,s1,s2,s3⟩,h0,h1,h2,h3⟩:=D4.out.sb.getR
  go_wp2
  refine bodyPost_ret (v:=.tuple #[dkv A6 n6 c6 r2.1.room r2.1.fuse r2.1.off,.int .i64 (seg+1),.int .i64 r2.2]) (by simp[results,Tryz.results92,go_sem,s0,s1,s2,s3]) rfl ?_
  exact D4.out.endW hn6 [.int .i64 (seg+1),.int .i64 r2.2] _ _ _ _
 refine consK (fun K hK=>?_) AllReadyL.nil
 go_simp
 refine hK.out _ _ ?_
 clear hK K
 try simp only[Act.put,sA,sB,sC]
 refine takH 6 ?_
 refine takH 8 ?_
 refine doneH ?_
 have hn5:n5*48≤140737488355328:=by have h1:=Z5.out.1.len;have h2:=HD.out.len;have h3:=HD.out.few;have h4:l2.length=l.length:=hal;have h5:l2.length=n5:=h1;omega
 have D1:=hid (Sd.new2 (room:=room2) (fuse:=fuse2) (off:=off2) (L:=l2) (Y.out.step Z5.out.2.1) Z5.out.2.2 Z5.out.1)
 clear e0 e1 e2 e3 f0 f1 f2' f3 x0 x1 x2 x3 y0 y1 y2 y3
 generalize ((((w5.setCell ⟨w.heap.size,0,none⟩ (.slice A5 n5 c5)).setCell ⟨w.heap.size,1,none⟩ (.int .i64 room2)).setCell ⟨w.heap.size,2,none⟩ (.int .i64 fuse2)).setCell ⟨w.heap.size,3,none⟩ (.bool off2))=V at D1 ⊢
 obtain⟨⟨e0,e1,e2,e3⟩,f0,f1,f2',f3⟩:=D1.out.sb.get
 obtain⟨⟨s0,s1,s2,s3⟩,h0,h1,h2,h3⟩:=D1.out.sb.getR
 subst he'
 go_wp2_with fail
 refine(KU2.out _).mono ?_
 rintro e w7 ⟨rfl,q7⟩
 have D2:=hid (Sd.mk (D1.out.sb.step q7) (D1.out.own.q q7))
 clear D1 e0 e1 e2 e3 f0 f1 f2' f3 s0 s1 s2 s3 h0 h1 h2 h3
 have D1:=D2
 clear D2
 obtain⟨⟨e0,e1,e2,e3⟩,f0,f1,f2',f3⟩:=D1.out.sb.get
 obtain⟨⟨s0,s1,s2,s3⟩,h0,h1,h2,h3⟩:=D1.out.sb.getR
 go_upto_region 14 with (fail)
 have D3:=hid D1.out.sb
 have DW3:=hid (D1.out.own.dsk hn5)
 clear s0 s1 s2 s3 h0 h1 h2 h3 DW Y Z5
 generalize w7=W at D3 DW3 e0 e1 e2 e3 f0 f1 f2' f3 ⊢
 have QW:=hid (Q.refl W)
 refine wp_region_heldL 9 (Q W) (by kernel_rfl) ?szz50 (fun hHeld=>?rzz50)
 case szz50 =>
  exact(Q.refl W).drew
 refine takeL 0 ?v51 ?y51 ?_
 case y51=>intro w hSw;have x0:=box_ hSw e0;have x1:=box_ hSw e1;have x2:=box_ hSw e2;have x3:=box_ hSw e3;clear hSw;go_simp;try with_reducible rfl
 refine takL 1 ?_
 refine takL 3 ?_
 refine oneL 2 (fun K hK=>?_)
 go_simp
 refine(KN2.out _ (HT.out.q (D3.out.q.trans hHeld))).mono ?_
 rintro e w3 ⟨rfl,q3⟩
 go_wp2_with fail
 refine hK.out _ _ (hHeld.trans q3) (fun hHeld=>?_)
 clear hK K
 try simp only[Act.put,sA,sB,sC]
 refine oneL 4 (fun K hK=>?_)
 go_simp
 refine(KL.out _).mono ?_
 rintro e w4 ⟨rfl,q4⟩
 go_wp2_with fail
 refine hK.out _ _ (hHeld.trans q4) (fun hHeld=>?_)
 clear hK K
 try simp only[Act.put,sA,sB,sC]
 refine oneL 5 (fun K hK=>?_)
 go_simp
 refine(KA2.out _ _ _ _ (DW3.out.q hHeld)).mono ?_
 rintro e w6 ⟨A6,n6,c6,rfl,ho,q6⟩
 obtain⟨⟨x0,x1,x2,x3⟩,y0,y1,y2,y3⟩:=((D3.out.step hHeld).step q6).get
 have Z6:=hid (And.intro ho (And.intro hHeld q6))
 go_wp2_with fail
 refine hK.out _ _ (hHeld.trans q6) (fun hHeld=>?_)
 clear hK K
 try simp only[Act.put,sA,sB,sC]
 refine takL 6 ?_
 refine takL 7 ?_
 refine wpAnyL_ready (rs:=[8,9]) (by kernel_rfl) (by simp) ?_
 refine consL (fun K hK=>?kzz60) ?_
 case kzz60 =>
  go_simp
  refine hK.out _ _ (hHeld) (fun hHeld=>?_)
  clear hK K
  try simp only[Act.put,sA,sB,sC]
  refine oneK (fun K hK=>?_)
  go_simp
  refine hK.out _ _ ?_
  clear hK K
  try simp only[Act.put,sA,sB,sC]
  refine takH 10 ?_
  refine doneH ?_
  have hn6:n6*48≤140737488355328:=by have h1:=Z6.out.1.len;have h2:=HD.out.len;have h3:=HD.out.few;have h4:l2.length=l.length:=hal;have h5:r2.1.fs.length≤max l2.length 64:=hal2;omega
  have D4:=hid (Sd.new2 (room:=r2.1.room) (fuse:=r2.1.fuse) (off:=r2.1.off) (L:=r2.1.fs) (D3.out.step Z6.out.2.1) Z6.out.2.2 Z6.out.1)
  clear e0 e1 e2 e3 f0 f1 f2' f3 x0 x1 x2 x3 y0 y1 y2 y3
  generalize ((((w6.setCell ⟨w.heap.size,0,none⟩ (.slice A6 n6 c6)).setCell ⟨w.heap.size,1,none⟩ (.int .i64 r2.1.room)).setCell ⟨w.heap.size,2,none⟩ (.int .i64 r2.1.fuse)).setCell ⟨w.heap.size,3,none⟩ (.bool r2.1.off))=V at D4 ⊢
  obtain⟨⟨e0,e1,e2,e3⟩,f0,f1,f2',f3⟩:=D4.out.sb.get
  obtain⟨⟨s0,s1,s2,s3⟩,h0,h1,h2,h3⟩:=D4.out.sb.getR
  go_wp2
  refine bodyPost_ret (v:=.tuple #[dkv A6 n6 c6 r2.1.room r2.1.fuse r2.1.off,.int .i64 (seg+1),.int .i64 r2.2]) (by simp[results,Tryz.results92,go_sem,s0,s1,s2,s3]) rfl ?_
  exact D4.out.endW hn6 [.int .i64 (seg+1),.int .i64 r2.2] _ _ _ _
 refine consK (fun K hK=>?_) AllReadyL.nil
 go_simp
 refine hK.out _ _ ?_
 clear hK K
 try simp only[Act.put,sA,sB,sC]
 refine takH 8 ?_
 refine takH 10 ?_
 refine doneH ?_
 have hn6:n6*48≤140737488355328:=by have h1:=Z6.out.1.len;have h2:=HD.out.len;have h3:=HD.out.few;have h4:l2.length=l.length:=hal;have h5:r2.1.fs.length≤max l2.length 64:=hal2;omega
 have D4:=hid (Sd.new2 (room:=r2.1.room) (fuse:=r2.1.fuse) (off:=r2.1.off) (L:=r2.1.fs) (D3.out.step Z6.out.2.1) Z6.out.2.2 Z6.out.1)
 clear e0 e1 e2 e3 f0 f1 f2' f3 x0 x1 x2 x3 y0 y1 y2 y3
 generalize ((((w6.setCell ⟨w.heap.size,0,none⟩ (.slice A6 n6 c6)).setCell ⟨w.heap.size,1,none⟩ (.int .i64 r2.1.room)).setCell ⟨w.heap.size,2,none⟩ (.int .i64 r2.1.fuse)).setCell ⟨w.heap.size,3,none⟩ (.bool r2.1.off))=V at D4 ⊢
 obtain⟨⟨e0,e1,e2,e3⟩,f0,f1,f2',f3⟩:=D4.out.sb.get
 obtain⟨⟨s0,s1,s2,s3⟩,h0,h1,h2,h3⟩:=D4.out.sb.getR
 go_wp2
 refine bodyPost_ret (v:=.tuple #[dkv A6 n6 c6 r2.1.room r2.1.fuse r2.1.off,.int .i64 (seg+1),.int .i64 r2.2]) (by simp[results,Tryz.results92,go_sem,s0,s1,s2,s3]) rfl ?_
 exact D4.out.endW hn6 [.int .i64 (seg+1),.int .i64 r2.2] _ _ _ _
theorem put_any (seg:Int)(rec:ByteArray)(A:Option Addr)(n c:Nat)(d:Dk)(w:World)(hT:Tab w)(hd:Dsk w A n c d.fs)(hB:Bnd 2305843009213693952 d)(hr:rec.size≤maxLen) :
  Calls Tryz.prog 92 #[dkv A n c d.room d.fuse d.off,.int .i64 seg,.string rec] w fun e w'=>RetW w (putM d seg rec).1 [.int .i64 (putM d seg rec).2.1,.int .i64 (putM d seg rec).2.2] e w':=by
 by_cases h1:segOk seg
 case neg =>
  rw[show putM d seg rec=(d,seg,1) by unfold putM;rw[if_pos h1]]
  exact put_arg seg rec A n c d.room d.fuse d.off d.fs w hd h1
 by_cases h2:2048<rec.size
 · rw[show putM d seg rec=(d,seg,4) by unfold putM;rw[if_neg (by simpa using h1),if_pos h2]]
   exact put_big seg rec A n c d.room d.fuse d.off d.fs w hd h1 h2 hr
 have e0:putM d seg rec=putB d seg rec:=by unfold putM;rw[if_neg (by simpa using h1),if_neg h2]
 rw[e0]
 by_cases h3:(redd (namB seg) d.fs).1.size<256
 · rw[show putB d seg rec=putA d seg rec by unfold putB;rw[if_pos h3]]
   exact put_fit seg rec A n c d w hT hd hB h1 (by omega) h3
 by_cases h4:(syn d (namB seg)).2=0
 case neg =>
  rw[show putB d seg rec=((syn d (namB seg)).1,seg,(syn d (namB seg)).2) by unfold putB;rw[if_neg h3,if_pos h4]]
  exact put_serr seg rec A n c d w hT hd hB h1 (by omega) (by omega) h4
 by_cases h5:seg=1000000
 · rw[show putB d seg rec=((syn d (namB seg)).1,seg,5) by unfold putB;rw[if_neg h3,if_neg (by simpa using h4),if_pos h5]]
   exact put_full seg rec A n c d w hT hd hB h1 (by omega) (by omega) h4 h5
 · rw[show putB d seg rec=putA (syn d (namB seg)).1 (seg+1) rec by unfold putB;rw[if_neg h3,if_neg (by simpa using h4),if_neg h5]]
   exact put_next seg rec A n c d w hT hd hB h1 (by omega) (by omega) h4 h5
end
section
open Go.RowKit Dkm Wm
section
variable {w wr:World} {A:Option Addr} {n c:Nat} {d:Dk}
theorem Sv.endW (h:Sv w A n c d wr)(hf:Far w A)(vs:List Value)(x y z u:Value) :
  RetW w d vs (.returned (.tuple (dkv A n c d.room d.fuse d.off :: vs).toArray)) ((((wr.setCell ⟨w.heap.size+1,0,none⟩ x).setCell ⟨w.heap.size+1,1,none⟩ y).setCell ⟨w.heap.size+1,2,none⟩ z).setCell ⟨w.heap.size+1,3,none⟩ u):=
 ⟨A,n,c,rfl,(((h.dsk.away1 (fun hn ad e=>(h.away hn ad e).2) 0 _).away1 (fun hn ad e=>(h.away hn ad e).2) 1 _).away1 (fun hn ad e=>(h.away hn ad e).2) 2 _).away1 (fun hn ad e=>(h.away hn ad e).2) 3 _,hf,h.sb.q.set4 (b:=w.heap.size+1) (by omega) _ _ _ _⟩
end
def Cs (w:World)(x:Dk×Int)(far:Prop)(s8:Value)(wx:World):Prop:=∃ A n c,s8=.int .i64 x.2∧Sv w A n c x.1 wx∧(far→Far w A)
theorem dels_end {x:Dk×Int}{k:Int}(h:x.2≠0∨¬ (segOk k∧(hit (namB k) x.1.fs).2=true)):(if x.2=0 then dels (fuelOf k) x.1 k else x)=x:=by
 by_cases h0:x.2=0
 · rw [if_pos h0]
   have e:(x.1,(0:Int))=x:=by rw[←h0]
   rcases h with h | h
   · exact absurd h0 h
   · cases hf:fuelOf k with
      | zero=>exact e
      | succ m=>unfold dels;rw[if_neg h];exact e
 · rw[if_neg h0]
theorem dels_more {x:Dk×Int}{k:Int}(h0:x.2=0)(h1:segOk k)(h2:(hit (namB k) x.1.fs).2=true) :
  (if x.2=0 then dels (fuelOf k) x.1 k else x)=(if (del x.1 (namB k)).2=0 then dels (fuelOf (k+1)) (del x.1 (namB k)).1 (k+1) else del x.1 (namB k)):=by
 have hf:fuelOf k=fuelOf (k+1)+1:=by have:=h1.2;unfold fuelOf;omega
 rw[if_pos h0,hf]
 conv=>lhs;unfold dels
 rw[if_pos ⟨h1,h2⟩]
theorem cut_any (seg:Int)(s:ByteArray)(A:Option Addr)(n c:Nat)(d:Dk)(w:World)(hT:Tab w)(hd:Dsk w A n c d.fs)(hB:Bnd 2305843009213693952 d)(hs:s.size≤2305843009213693952)(h1:segOk seg) :
  Calls Tryz.prog 123 #[dkv A n c d.room d.fuse d.off,.int .i64 seg,.string s] w fun e w'=>RetW w (cutM d seg s).1 [.int .i64 (cutM d seg s).2] e w':=by
 have HT:=hid hT
 have HN:=hid hd.max
 have B1:=hB.cut1
 have B2:=hB.cut2 (by omega) s
 have B3:=hB.cut3 (by omega) s
 have B4:=hB.cut4 (by omega) seg s
 have BD:=hB.del freshB
 have mx:∀ {d:Dk},Bnd 2305843009213693952 d→∀ f∈d.fs,f.sf.size+f.wt.size≤maxLen:=fun h f hf=>Nat.le_trans (h.sum f hf) (by unfold maxLen;omega)
 have C1:=hid (show cut1 d=if (hit freshB d.fs).2 then del d freshB else (d,0) from rfl)
 have C2:=hid (show cut2 d s=if (cut1 d).2=0 then appd (cut1 d).1 freshB s else cut1 d from rfl)
 have C3:=hid (show cut3 d s=if (cut2 d s).2=0 then syn (cut2 d s).1 freshB else cut2 d s from rfl)
 have C4:=hid (show cut4 d seg s=if (cut3 d s).2=0 then ren (cut3 d s).1 freshB (namB seg) else cut3 d s from rfl)
 have C5:=hid (show cutM d seg s=if (cut4 d seg s).2=0 then dels (fuelOf (seg+1)) (cut4 d seg s).1 (seg+1) else cut4 d seg s from rfl)
 generalize cutM d seg s=x5 at C5 ⊢
 generalize cut4 d seg s=x4 at C4 C5 B4
 generalize cut3 d s=x3 at C3 C4 B3
 generalize cut2 d s=x2 at C2 C3 B2
 generalize cut1 d=x1 at C1 C2 B1
 have KD:=hid (fun A n c w hd=>del_any freshB A n c d w hd (mx hB) hB.fuse.2)
 have KH:=hid (fun w hf=>has_any freshB A n c d.room d.fuse d.off d.fs w hf HN.out)
 have KA:=hid (fun A n c w hd=>append_any freshB s A n c x1.1 w hd B1.sum hs B1.room.2 B1.fuse.2)
 have KY:=hid (fun A n c w hd=>sync_any freshB A n c x2.1 w hd (mx B2))
 have KRN:=hid (fun A n c w hd=>ren_any freshB (namB seg) A n c x3.1 w hd (mx B3) B3.fuse.2)
 have KN:=hid (name_any seg)
 have HB1:=hid B1
 have HB2:=hid B2
 have HB3:=hid B3
 have HB4:=hid B4
 have HBD:=hid BD
 have HD:=hid hd
 have r0:=h1.1
 have r1:=h1.2
 clear hT hd hB hs h1 B1 B2 B3 B4 BD
 generalize (hit freshB d.fs).2=b at KH C1
 generalize del d freshB=xd at KD C1 HBD
 change Hid (∀ w,Files w A n d.fs→Calls _ _ #[dkv A n c d.room d.fuse d.off,.string ⟨#[119,46,110,101,119]⟩] w fun e w'=>e=.returned (.bool b)∧Q w w') at KH
 go_enter Tryz.func123,Tryz.ntmps123
 go_wp2_with fail
 refine(KH.out _ (HD.out.files.q (((Q.refl _).alloc _).alloc _))).mono ?_
 rintro e w1 ⟨rfl,q1⟩
 have X:=hid ((Sv.new w HD.out).step q1)
 clear q1
 go_upto_if 10 with (fail)
 go_cut [8] (fun s8 wx=>Cs w x1 (x1.2≠0) s8 wx)
 case first =>
  cases b
  · go_wp2_with fail
    go_meet
    exact⟨A,n,c,by rw[C1.out];rfl,by rw[C1.out];exact X.out,fun h=>absurd (by rw[C1.out];rfl) h⟩
  · obtain⟨⟨e0,e1,e2,e3⟩,f0,f1,f2',f3⟩:=X.out.sb.get
    go_wp2_with fail
    refine(KD.out A n c _ X.out.dsk).mono ?_
    rintro e w2 ⟨A2,n2,c2,rfl,ho,q2⟩
    have P:=X.out.put q2 ho (few_own ho HBD.out)
    clear e0 e1 e2 e3 f0 f1 f2' f3
    obtain⟨⟨e0,e1,e2,e3⟩,f0,f1,f2',f3⟩:=(X.out.sb.step q2).get
    clear ho q2
    have P:=hid P
    go_wp2_with fail
    go_meet
    exact⟨A2,n2,c2,by rw[C1.out];rfl,by rw[C1.out];exact P.out.1,fun _=>P.out.2⟩
 case rest =>
  obtain⟨A1,n1,c1,rfl,v1,r1'⟩:=hcut
  have V1:=hid v1
  have R1:=hid r1'
  clear v1 r1'
  go_upto_if 17 with (fail)
  go_cut [8] (fun s8 wx=>Cs w x2 True s8 wx)
  case first =>
   by_cases g:x1.2=0
   · have CC:=C2.out
     rw[if_pos g] at CC
     have HC:=hid CC
     clear CC
     obtain⟨⟨e0,e1,e2,e3⟩,f0,f1,f2',f3⟩:=V1.out.sb.get
     go_wp2_with fail
     refine(KA.out _ _ _ _ V1.out.dsk).mono ?_
     rintro e w2 ⟨A2,n2,c2,rfl,ho,q2⟩
     rw[←HC.out] at ho
     have P:=V1.out.put q2 ho (few_own ho HB2.out)
     clear e0 e1 e2 e3 f0 f1 f2' f3
     obtain⟨⟨e0,e1,e2,e3⟩,f0,f1,f2',f3⟩:=(V1.out.sb.step q2).get
     clear ho q2
     have P:=hid P
     go_wp2_with fail
     go_meet
     rw[←HC.out]
     exact⟨A2,n2,c2,rfl,P.out.1,fun _=>P.out.2⟩
   · have CC:=C2.out
     rw[if_neg g] at CC
     have HC:=hid CC
     clear CC
     go_wp2_with fail
     go_meet
     rw[HC.out]
     exact⟨A1,n1,c1,rfl,V1.out,fun _=>R1.out g⟩
  case rest =>
   obtain⟨A2,n2,c2,rfl,v2,r2'⟩:=hcut
   have V2:=hid v2
   have R2:=hid r2'
   clear v2 r2'
   go_upto_if 25 with (fail)
   go_cut [8] (fun s8 wx=>Cs w x3 True s8 wx)
   case first =>
    by_cases g:x2.2=0
    · have CC:=C3.out
      rw[if_pos g] at CC
      have HC:=hid CC
      clear CC
      obtain⟨⟨e0,e1,e2,e3⟩,f0,f1,f2',f3⟩:=V2.out.sb.get
      go_wp2_with fail
      refine(KY.out _ _ _ _ V2.out.dsk).mono ?_
      rintro e w2 ⟨A2,n2,c2,rfl,ho,q2⟩
      rw[←HC.out] at ho
      have P:=V2.out.put q2 ho (few_own ho HB3.out)
      clear e0 e1 e2 e3 f0 f1 f2' f3
      obtain⟨⟨e0,e1,e2,e3⟩,f0,f1,f2',f3⟩:=(V2.out.sb.step q2).get
      clear ho q2
      have P:=hid P
      go_wp2_with fail
      go_meet
      rw[←HC.out]
      exact⟨A2,n2,c2,rfl,P.out.1,fun _=>P.out.2⟩
    · have CC:=C3.out
      rw[if_neg g] at CC
      have HC:=hid CC
      clear CC
      go_wp2_with fail
      go_meet
      rw[HC.out]
      exact⟨A2,n2,c2,rfl,V2.out,fun _=>R2.out trivial⟩
   case rest =>
    obtain⟨A3,n3,c3,rfl,v3,r3'⟩:=hcut
    have V3:=hid v3
    have R3:=hid r3'
    clear v3 r3'
    go_upto_if 32 with (fail)
    go_cut [8] (fun s8 wx=>Cs w x4 True s8 wx)
    case first =>
     by_cases g:x3.2=0
     · have CC:=C4.out
       rw[if_pos g] at CC
       have HC:=hid CC
       clear CC
       have KR2:=hid (fun A n c w hd=>by have h:=KRN.out A n c w hd;rw[←HC.out] at h;exact h)
       clear KRN
       have KRN:=KR2
       clear KR2
       generalize wc=W at V3 ⊢
       have S3:=hid V3.out.sb
       have DW:=hid V3.out.dsk
       obtain⟨⟨e0,e1,e2,e3⟩,f0,f1,f2',f3⟩:=V3.out.sb.get
       go_upto_region 9 with (fail)
       have QW:=hid (Q.refl W)
       refine wp_region_heldL 7 (Q W) (by kernel_rfl) ?szz0 (fun hHeld=>?rzz0)
       case szz0 =>
        exact(Q.refl W).drew
       refine takeL 0 ?v1 ?y1 ?_
       case y1=>intro w hSw;have x0:=box_ hSw e0;have x1:=box_ hSw e1;have x2:=box_ hSw e2;have x3:=box_ hSw e3;clear hSw;go_simp;try with_reducible rfl
       refine takL 1 ?_
       refine oneL 2 (fun K hK=>?_)
       go_simp
       refine(KN.out _ (HT.out.q (S3.out.q.trans hHeld))).mono ?_
       rintro e w3 ⟨rfl,q3⟩
       go_wp2_with fail
       refine hK.out _ _ (hHeld.trans q3) (fun hHeld=>?_)
       clear hK K
       try simp only[Act.put,sA,sB,sC]
       refine oneL 3 (fun K hK=>?_)
       go_simp
       refine(KRN.out _ _ _ _ (DW.out.q hHeld)).mono ?_
       rintro e w5 ⟨A5,n5,c5,rfl,ho,q5⟩
       obtain⟨⟨x0,x1,x2,x3⟩,y0,y1,y2,y3⟩:=((S3.out.step hHeld).step q5).get
       have Z5:=hid (And.intro ho (And.intro hHeld q5))
       go_wp2_with fail
       refine hK.out _ _ (hHeld.trans q5) (fun hHeld=>?_)
       clear hK K
       try simp only[Act.put,sA,sB,sC]
       refine takL 4 ?_
       refine takL 5 ?_
       refine wpAnyL_ready (rs:=[6,7]) (by kernel_rfl) (by simp) ?_
       refine consL (fun K hK=>?kzz9) ?_
       case kzz9 =>
        go_simp
        refine hK.out _ _ (hHeld) (fun hHeld=>?_)
        clear hK K
        try simp only[Act.put,sA,sB,sC]
        refine oneK (fun K hK=>?_)
        go_simp
        refine hK.out _ _ ?_
        clear hK K
        try simp only[Act.put,sA,sB,sC]
        refine takH 8 ?_
        refine doneH ?_
        have P:=(V3.out.step Z5.out.2.1).put Z5.out.2.2 Z5.out.1 (few_own Z5.out.1 HB4.out)
        have P:=hid P
        go_wp2_with fail
        go_meet
        exact⟨A5,n5,c5,rfl,P.out.1,fun _=>P.out.2⟩
       refine consK (fun K hK=>?_) AllReadyL.nil
       go_simp
       refine hK.out _ _ ?_
       clear hK K
       try simp only[Act.put,sA,sB,sC]
       refine takH 6 ?_
       refine takH 8 ?_
       refine doneH ?_
       have P:=(V3.out.step Z5.out.2.1).put Z5.out.2.2 Z5.out.1 (few_own Z5.out.1 HB4.out)
       have P:=hid P
       go_wp2_with fail
       go_meet
       exact⟨A5,n5,c5,rfl,P.out.1,fun _=>P.out.2⟩
     · have CC:=C4.out
       rw[if_neg g] at CC
       have HC:=hid CC
       clear CC
       go_wp2_with fail
       go_meet
       rw[HC.out]
       exact⟨A3,n3,c3,rfl,V3.out,fun _=>R3.out trivial⟩
    case rest =>
     obtain⟨A4,n4,c4,rfl,v4,r4'⟩:=hcut
     have V4:=hid v4
     have R4:=hid (r4' trivial)
     clear v4 r4' KRN KA KY KD KH
     go_wp2
     go_loopw [1,8] (fun s1 s8 wr=>∃ (k:Int) (A5:Option Addr) (n5 c5:Nat) (x:Dk×Int),s1=.int .i64 k∧s8=.int .i64 x.2∧1≤k∧k≤1000001∧Sv w A5 n5 c5 x.1 wr∧Far w A5∧Bnd 2305843009213693952 x.1∧x5=if x.2=0 then dels (fuelOf k) x.1 k else x) (fun s1 _ _=>(1000002 - intOf s1).toNat)
     case atStart=>exact⟨seg+1,A4,n4,c4,x4,by simp,rfl,by omega,by omega,V4.out,R4.out,HB4.out,C5.out⟩
     case round =>
      obtain⟨k,A5,n5,c5,x,rfl,rfl,hk1,hk2,hv,hf,hb,hx⟩:=hrel
      have V:=hid hv
      have HF:=hid hf
      have HB:=hid hb
      have HX:=hid hx
      clear hv hf hb hx
      generalize wr=W at V ⊢
      have KNK:=hid (name_any k)
      have KHK:=hid (fun w hf=>has_any (namB k) A5 n5 c5 x.1.room x.1.fuse x.1.off x.1.fs w hf V.out.dsk.max)
      obtain⟨⟨e0,e1,e2,e3⟩,f0,f1,f2',f3⟩:=V.out.sb.get
      by_cases g0:x.2=0
      · by_cases g1:segOk k
        · have G1:=hid g1
          have KUK:=hid (numbered_yes k g1)
          cases g2:(hit (namB k) x.1.fs).2
          · rw [g2] at KHK
            have G2:=hid g2
            clear g1 g2
            go_upto_region 11 with (fail)
            go_region_held3 (fun w'=>w'.cell? ⟨w.heap.size,0,none⟩=some (.slice A5 n5 c5)∧w'.cell? ⟨w.heap.size,1,none⟩=some (.int .i64 x.1.room)∧w'.cell? ⟨w.heap.size,2,none⟩=some (.int .i64 x.1.fuse)∧w'.cell? ⟨w.heap.size,3,none⟩=some (.bool x.1.off))
              (first
                | go_keep
                | (go_split_ands
                   (repeat' apply And.intro)<;>exact box_ ‹Q _ _› (by assumption)))
              (first
                | (go_at_call 120
                   (with_reducible refine(KUK.out _).mono ?_)
                   rintro e w2 ⟨rfl,q2⟩)
                | (go_at_call 121
                   (with_reducible refine(KNK.out _ (HT.out.q (V.out.sb.q.trans ((Q.refl W).drew.trans q2)))).mono ?_)
                   rintro e w3 ⟨rfl,q3⟩)
                | (go_at_call 148
                   (with_reducible refine(KHK.out _ (V.out.dsk.files.q (((Q.refl W).drew.trans q2).trans q3))).mono ?_)
                   rintro e w4 ⟨rfl,q4⟩))
            have U:=hid (V.out.step ((((Q.refl W).drew.trans q2).trans q3).trans q4))
            clear e0 e1 e2 e3 f0 f1 f2' f3 V q2 q3 q4
            obtain⟨⟨s0,s1,s2,s3⟩,h0,h1,h2,h3⟩:=U.out.sb.getR
            obtain⟨⟨e0,e1,e2,e3⟩,f0,f1,f2',f3⟩:=U.out.sb.get
            go_wp2
            refine bodyPost_ret (v:=.tuple #[dkv A5 n5 c5 x.1.room x.1.fuse x.1.off,.int .i64 0]) (by simp[results,Tryz.results123,go_sem,s0,s1,s2,s3]) rfl ?_
            have ex:=HX.out
            rw[dels_end (.inr (fun h=>by rw[G2.out] at h;exact absurd h.2 (by simp)))] at ex
            rw[ex,g0]
            have e0':[Value.int .i64 x.2]=[.int .i64 0]:=by rw[g0]
            exact e0' ▸ U.out.endW HF.out [.int .i64 x.2] _ _ _ _
          · rw [g2] at KHK
            have G2:=hid g2
            have KDK:=hid (fun A n c w hd=>del_any (namB k) A n c x.1 w hd (mx HB.out) HB.out.fuse.2)
            have HB2':=hid (HB.out.del (namB k))
            have HX2:=hid (HX.out.trans (dels_more g0 g1 g2))
            clear g1 g2 HX
            generalize del x.1 (namB k)=y at KDK HB2' HX2
            go_upto_region 11 with (fail)
            go_region_held3 (fun w'=>w'.cell? ⟨w.heap.size,0,none⟩=some (.slice A5 n5 c5)∧w'.cell? ⟨w.heap.size,1,none⟩=some (.int .i64 x.1.room)∧w'.cell? ⟨w.heap.size,2,none⟩=some (.int .i64 x.1.fuse)∧w'.cell? ⟨w.heap.size,3,none⟩=some (.bool x.1.off))
              (first
                | go_keep
                | (go_split_ands
                   (repeat' apply And.intro)<;>exact box_ ‹Q _ _› (by assumption)))
              (first
                | (go_at_call 120
                   (with_reducible refine(KUK.out _).mono ?_)
                   rintro e w2 ⟨rfl,q2⟩)
                | (go_at_call 121
                   (with_reducible refine(KNK.out _ (HT.out.q (V.out.sb.q.trans ((Q.refl W).drew.trans q2)))).mono ?_)
                   rintro e w3 ⟨rfl,q3⟩)
                | (go_at_call 148
                   (with_reducible refine(KHK.out _ (V.out.dsk.files.q (((Q.refl W).drew.trans q2).trans q3))).mono ?_)
                   rintro e w4 ⟨rfl,q4⟩))
            have U:=hid (V.out.step ((((Q.refl W).drew.trans q2).trans q3).trans q4))
            clear e0 e1 e2 e3 f0 f1 f2' f3 V q2 q3 q4
            generalize w4=W at U ⊢
            have SU:=hid U.out.sb
            have DU:=hid U.out.dsk
            obtain⟨⟨e0,e1,e2,e3⟩,f0,f1,f2',f3⟩:=U.out.sb.get
            go_upto_region 13 with (fail)
            have QW:=hid (Q.refl W)
            refine wp_region_heldL 7 (Q W) (by kernel_rfl) ?szz13 (fun hHeld=>?rzz13)
            case szz13 =>
             exact(Q.refl W).drew
            refine takeL 0 ?v14 ?y14 ?_
            case y14=>intro w hSw;have x0:=box_ hSw e0;have x1:=box_ hSw e1;have x2:=box_ hSw e2;have x3:=box_ hSw e3;clear hSw;go_simp;try with_reducible rfl
            refine takL 1 ?_
            refine oneL 2 (fun K hK=>?_)
            go_simp
            refine(KNK.out _ (HT.out.q (SU.out.q.trans hHeld))).mono ?_
            rintro e w3 ⟨rfl,q3⟩
            go_wp2_with fail
            refine hK.out _ _ (hHeld.trans q3) (fun hHeld=>?_)
            clear hK K
            try simp only[Act.put,sA,sB,sC]
            refine oneL 3 (fun K hK=>?_)
            go_simp
            refine(KDK.out _ _ _ _ (DU.out.q hHeld)).mono ?_
            rintro e w5 ⟨A5,n5,c5,rfl,ho,q5⟩
            obtain⟨⟨x0,x1,x2,x3⟩,y0,y1,y2,y3⟩:=((SU.out.step hHeld).step q5).get
            have Z5:=hid (And.intro ho (And.intro hHeld q5))
            go_wp2_with fail
            refine hK.out _ _ (hHeld.trans q5) (fun hHeld=>?_)
            clear hK K
            try simp only[Act.put,sA,sB,sC]
            refine takL 4 ?_
            refine takL 5 ?_
            refine wpAnyL_ready (rs:=[6,7]) (by kernel_rfl) (by simp) ?_
            refine consL (fun K hK=>?kzz22) ?_
            case kzz22 =>
             go_simp
             refine hK.out _ _ (hHeld) (fun hHeld=>?_)
             clear hK K
             try simp only[Act.put,sA,sB,sC]
             refine oneK (fun K hK=>?_)
             go_simp
             refine hK.out _ _ ?_
             clear hK K
             try simp only[Act.put,sA,sB,sC]
             refine takH 8 ?_
             refine doneH ?_
             have P:=hid ((U.out.step Z5.out.2.1).put Z5.out.2.2 Z5.out.1 (few_own Z5.out.1 HB2'.out))
             have hk3:k≤1000000:=G1.out.2
             go_wp2_with fail
             go_roundw
             case rel=>exact⟨k+1,A5,n5,c5,y,by simp,rfl,by omega,by omega,P.out.1,P.out.2,HB2'.out,HX2.out⟩
             case measure=>simp[intOf];omega
            refine consK (fun K hK=>?_) AllReadyL.nil
            go_simp
            refine hK.out _ _ ?_
            clear hK K
            try simp only[Act.put,sA,sB,sC]
            refine takH 6 ?_
            refine takH 8 ?_
            refine doneH ?_
            have P:=hid ((U.out.step Z5.out.2.1).put Z5.out.2.2 Z5.out.1 (few_own Z5.out.1 HB2'.out))
            have hk3:k≤1000000:=G1.out.2
            go_wp2_with fail
            go_roundw
            case rel=>exact⟨k+1,A5,n5,c5,y,by simp,rfl,by omega,by omega,P.out.1,P.out.2,HB2'.out,HX2.out⟩
            case measure=>simp[intOf];omega
        · have KUK:=hid (numbered_no k g1)
          have G1:=hid g1
          clear g1
          go_upto_region 11 with (fail)
          refine wp_region_held_drew (S:=fun _=>True) (by kernel_rfl) ?szz26 (fun hHeld=>?rzz26)
          case szz26 =>
           trivial
          refine takH 0 ?_
          refine takH 1 ?_
          refine takH 2 ?_
          refine takH 3 ?_
          refine oneH 4 (fun K hK=>?_)
          go_simp
          refine(KUK.out _).mono ?_
          rintro e w2 ⟨rfl,q2⟩
          go_wp2_with fail
          refine hK.out _ _ ?Szz38 (fun hHeld=>?_)
          case Szz38 =>
           trivial
          clear hK K
          try simp only[Act.put,sA,sB,sC]
          refine takH 5 ?_
          refine takH 6 ?_
          refine skipH 7 ?_
          refine skipH 8 ?_
          refine skipH 9 ?_
          refine skipH 10 ?_
          refine takH 11 ?_
          refine doneH ?_
          have U:=hid (V.out.step ((Q.refl W).drew.trans q2))
          clear e0 e1 e2 e3 f0 f1 f2' f3 V q2
          obtain⟨⟨s0,s1,s2,s3⟩,h0,h1,h2,h3⟩:=U.out.sb.getR
          obtain⟨⟨e0,e1,e2,e3⟩,f0,f1,f2',f3⟩:=U.out.sb.get
          go_wp2
          refine bodyPost_ret (v:=.tuple #[dkv A5 n5 c5 x.1.room x.1.fuse x.1.off,.int .i64 0]) (by simp[results,Tryz.results123,go_sem,s0,s1,s2,s3]) rfl ?_
          have ex:=HX.out
          rw[dels_end (.inr (fun h=>G1.out h.1))] at ex
          rw[ex,g0]
          have e0':[Value.int .i64 x.2]=[.int .i64 0]:=by rw[g0]
          exact e0' ▸ U.out.endW HF.out [.int .i64 x.2] _ _ _ _
      · have G0:=hid g0
        have KUK:=hid (numbered_yes)
        go_upto_region 11 with (fail)
        refine wp_region_held_drew (S:=fun _=>True) (by kernel_rfl) ?szz39 (fun hHeld=>?rzz39)
        case szz39 =>
         trivial
        refine takH 0 ?_
        refine takeH 1 ?v41 ?y41 ?_
        case y41=>intro w hSw;have hz:(x.2 == 0)=false:=(by simpa using g0);have hz2:decide (x.2=0)=false:=(by simpa using g0);go_simp;try with_reducible rfl
        refine takH 2 ?_
        refine skipH 3 ?_
        refine skipH 4 ?_
        refine takH 5 ?_
        refine takH 6 ?_
        refine skipH 7 ?_
        refine skipH 8 ?_
        refine skipH 9 ?_
        refine skipH 10 ?_
        refine takH 11 ?_
        refine doneH ?_
        have U:=hid (V.out.step (Q.refl W).drew)
        clear e0 e1 e2 e3 f0 f1 f2' f3
        obtain⟨⟨s0,s1,s2,s3⟩,h0,h1,h2,h3⟩:=V.out.sb.getR
        obtain⟨⟨e0,e1,e2,e3⟩,f0,f1,f2',f3⟩:=V.out.sb.get
        go_wp2
        refine bodyPost_ret (v:=.tuple #[dkv A5 n5 c5 x.1.room x.1.fuse x.1.off,.int .i64 x.2]) (by simp[results,Tryz.results123,go_sem,s0,s1,s2,s3]) rfl ?_
        have ex:=HX.out
        rw[dels_end (.inl G0.out)] at ex
        rw[ex]
        exact U.out.endW HF.out [.int .i64 x.2] _ _ _ _
end
section
open Go.RowKit Go.Shelf
attribute [local go_sem] Oper.semAt_some
abbrev Pz:=ByteArray×Int
def encP (x:Pz):Array Value:=#[.string x.1,.int .i64 x.2]
def bs (r:List UInt8):ByteArray:=⟨r.toArray⟩
theorem list_bs (l:List UInt8):(bs l).data.toList=l:=rfl
theorem bs_size (l:List UInt8):(bs l).size=l.length:=by show l.toArray.size=_;simp
def prs:Nat→List (List UInt8)→List Pz
 | _,[]=>[]
 | o,r :: rs=>(bs r,((o+(sld r).length:Nat):Int)) :: prs (o+(sld r).length) rs
theorem prs_snoc (r:List UInt8):∀ (us:List (List UInt8)) (o:Nat),prs o (us++[r])=prs o us++[(bs r,((o+(flat us).length+(sld r).length:Nat):Int))]
 | [],o=>by simp[prs,flat_nil]
 | u :: us,o=>by
   simp only[List.cons_append,prs,prs_snoc r us,flat_cons,List.length_append]
   rw[show o+(sld u).length+(flat us).length+(sld r).length=o+((sld u).length+(flat us).length)+(sld r).length by omega]
theorem prs_len:∀ (rs:List (List UInt8)) (o:Nat),(prs o rs).length=rs.length
 | [],_=>rfl
 | r :: rs,o=>by simp[prs,prs_len rs]
theorem prs_fst:∀ (rs:List (List UInt8)) (o:Nat),(prs o rs).map (fun x=>Value.string x.1)=rs.map (fun r=>Value.string (bs r))
  | [],_=>rfl
  | r :: rs,o=>by simp[prs,prs_fst rs]
def lastE (l:List Pz):Int:=(l.getLast?.map (·.2)).getD 0
theorem lastE_snoc (l:List Pz)(x:Pz):lastE (l++[x])=x.2:=by simp[lastE]
theorem lastE_prs (rs:List (List UInt8)):lastE (prs 0 rs)=((flat rs).length:Int):=by
 rcases List.eq_nil_or_concat rs with rfl | ⟨us,r,rfl⟩
 · rfl
 · rw[List.concat_eq_append,prs_snoc,lastE_snoc,flat_app,flat_cons,flat_nil]
   simp only[List.length_append,List.append_nil]
   omega
def strSize:Value→Nat
 | .string s=>s.size
 | _=>0
theorem grown_q {w w':World}(h:Q w w'):w.grownBy w' none:=⟨h.below.os,h.below.tape,h.below.output,h.below.size,fun k hk _=>h.below.block k hk⟩
theorem records_any (s:ByteArray)(w:World) :
  Calls Tryz.prog 160 #[.string s] w fun e w'=>e=.returned (.func (.func 188) #[] #[.pointer (some ⟨w.heap.size,0,none⟩)])∧w'=w.alloc (.cells #[.string s] 9):=by
 go_enter Tryz.func160,Tryz.ntmps160
 go_wp2
 go_ret
 exact⟨rfl,rfl⟩
def KpB (b:Nat)(W W':World):Prop:=∀ v,W.cell? ⟨b,0,none⟩=some v→W'.cell? ⟨b,0,none⟩=some v
theorem kpB_t {b:Nat}{A B C:World}(h:KpB b A B)(k:KpB b B C):KpB b A C:=fun v hv=>k v (h v hv)
theorem kpB_b {b:Nat}{w:World}(hb:b<w.heap.size)(W:World)(l:Nat)(o o':Obj)(hl:w.heap.size≤l)(h:W.heap[l]? = some o)(_:o.isCells=false)(_:o.isWalk=false):KpB b W (W.putObj l o'):=fun v hv=>by
 have e:(W.putObj l o').heap[b]? = W.heap[b]?:=World.putObj_heap_other (by omega)
 simp only[World.cell?] at hv ⊢
 rw[e];exact hv
theorem iter_any (n:Nat)(hn:1≤n)(l b:Nat)(s:ByteArray)(hs:s.size≤maxLen)(J Jx:List Pz→World→Prop)(W:World)(hJ:AbidesFrom W.heap.size J)
  (hY:∀ pre x W1,J pre W1→pre.length<(scn s.data.toList).1.length→YieldAt Fence.wide (n - 1) Tryz.prog l (encP x) W1 fun e W' =>
   (e=.returned (.bool true)∧J (pre++[x]) W'∧KpB b W1 W')∨(e=.returned (.bool false)∧Jx (pre++[x]) W'))
  (hc:W.cell? ⟨b,0,none⟩=some (.string s)) (hb:b<W.heap.size) (h0:J [] W) :
  CallsIn Fence.wide n Tryz.prog 188 #[.func (.yield l) #[] #[],.pointer (some ⟨b,0,none⟩)] W fun e W'=>(∃ v,e=.returned v) ∧
    ((∃ ys,ys=prs 0 (scn s.data.toList).1∧J ys W')∨(∃ pre,True∧Jx pre W')):=by
 refine callsIn_of_wp Tryz.func188 rfl trivial ?_ rfl
 simp only[Tryz.ntmps188,List.size_toArray,List.length_cons,List.length_nil,Nat.reduceAdd,Nat.reduceSub,Array.replicate_succ,Array.replicate_zero,List.push_toArray,List.append_toArray,List.nil_append,List.cons_append]
 have hS0:=scd s.data.toList
 have HY:=hid hY
 have HJ:=hid hJ
 have H0:=hid h0
 have HS:=hid hs
 clear hY hJ h0
 gi_wp2
 gi_loopw [3] (fun p wr=>∃ us vs,p=.string (bs (flat vs++(scn s.data.toList).2))∧(scn s.data.toList).1=us++vs∧J (prs 0 us) wr∧wr.cell? ⟨b,0,none⟩=some (.string s)) (fun p _=>strSize p)
 case atStart =>
  exact⟨[],(scn s.data.toList).1,by rw[←hS0.eq];rfl,rfl,H0.out,hc⟩
 case round =>
  obtain⟨us,vs,rfl,hx,hJs,hcs⟩:=hrel
  have hlen:(flat vs++(scn s.data.toList).2).length≤s.size:=by
   have h1:=congrArg List.length hS0.eq
   rw[hx,flat_app,size_list] at h1
   simp only[List.length_append] at h1 ⊢
   omega
  have hO:=sopen_any (bs (flat vs++(scn s.data.toList).2)) 2048 wr (by rw[bs_size];have:=HS.out;omega) (by omega) (by omega)
  rw[list_bs] at hO
  have hblt:b<wr.heap.size:=block_lt_of_cell hcs
  cases vs with
  | nil =>
    rw[flat_nil,List.nil_append] at hO
    rw[flat_nil,List.nil_append]
    have hno:=hS0.no
    generalize (scn s.data.toList).2=t at hO hno
    generalize topen t 2048=r at hO hno
    obtain⟨x,y,k⟩:=r
    simp only[ttR] at hO
    have hk:((k:Int) != 0)=true:=by simpa using hno
    have hx':prs 0 us=prs 0 (scn s.data.toList).1:=by rw[hx,List.append_nil]
    gi_wp2_with (fail)
    refine⟨trivial,?_⟩
    refine(callsIn_wide.2 hO).mono ?_
    rintro e W2 ⟨rfl,q2⟩
    have hJ2:J (prs 0 us) W2:=HJ.out _ _ _ none hJs (grown_q q2) (by intro r e;cases e)
    gi_wp2
    refine⟨fun _ h=>(by cases h),?_⟩
    gi_wp2
    refine bodyPost_ret (results_none rfl _ _ _) rfl ?_
    exact⟨⟨_,rfl⟩,.inl ⟨_,hx',hJ2⟩⟩
  | cons r vs =>
    have hr:r.length≤2048:=hS0.le r (by rw[hx];simp)
    rw[flat_cons,List.append_assoc] at hO hlen ⊢
    rw[open_one r _ hr] at hO
    simp only[ttR] at hO
    have h4:=sld_four r
    have hBs:=bs_size (flat vs++(scn s.data.toList).2)
    have hend:(s.size:Int) - ((bs (flat vs++(scn s.data.toList).2)).size:Int)=((0+(flat us).length+(sld r).length:Nat):Int):=by
     have h1:=congrArg List.length hS0.eq
     rw[hx,flat_app,flat_cons,size_list] at h1
     rw[bs_size]
     simp only[List.length_append] at h1 ⊢
     omega
    have hend2:wrap64 ((s.size:Int) - ((bs (flat vs++(scn s.data.toList).2)).size:Int))=((0+(flat us).length+(sld r).length:Nat):Int):=by
     rw[hend];have h2:=HS.out;have h3:=congrArg List.length hS0.eq
     rw[hx,flat_app,flat_cons,size_list] at h3
     simp only[List.length_append] at h3
     unfold maxLen at h2;unfold wrap64;omega
    have HE:=hid hend2
    clear hend hend2
    have hBle:(bs (flat vs++(scn s.data.toList).2)).size≤s.size:=by rw[hBs];simp only[List.length_append] at hlen ⊢;omega
    change Calls _ _ _ _ fun e w'=>e=.returned (.tuple #[.string (bs r),.string (bs (flat vs++(scn s.data.toList).2)),.int .i64 0])∧Q wr w' at hO
    have HL:=hid (And.intro hlen (And.intro hBs hx))
    have hms:strSize (.string (bs (flat vs++(scn s.data.toList).2)))<strSize (.string (bs (sld r++(flat vs++(scn s.data.toList).2)))):=by
     simp only[strSize,bs_size,List.length_append];omega
    clear hlen hBs hx
    gi_wp2_with (fail)
    refine⟨trivial,?_⟩
    refine(callsIn_wide.2 hO).mono ?_
    rintro e W2 ⟨rfl,q2⟩
    have hJ2:J (prs 0 us) W2:=HJ.out _ _ _ none hJs (grown_q q2) (by intro r e;cases e)
    have hc2:W2.cell? ⟨b,0,none⟩=some (.string s):=(q2.below.cell (p:=⟨b,0,none⟩) hblt).trans hcs
    obtain⟨fn,tmps,assign,body,hy,hR⟩:=HY.out (prs 0 us) (bs r,wrap64 ((s.size:Int) - ((bs (flat vs++(scn s.data.toList).2)).size:Int))) W2 hJ2 (by rw[prs_len,HL.out.2.2];simp)
    dsimp only[encP] at hy
    gi_wp2
    refine hR.mono ?_
    rintro e W3 (⟨rfl,hJ3,hk3⟩ | ⟨rfl,hJx3⟩)
    · have hc3:W3.cell? ⟨b,0,none⟩=some (.string s):=hk3 _ hc2
      have HM:=hid hms
      clear hms
      gi_wp2
      go_roundw
      case rel=>exact⟨us++[r],vs,rfl,by rw[HL.out.2.2];simp,by rw[prs_snoc,←HE.out];exact hJ3,hc3⟩
      case measure=>exact HM.out
    · gi_wp2
      refine bodyPost_ret (results_none rfl _ _ _) rfl ?_
      exact⟨⟨_,rfl⟩,.inr ⟨_,trivial,hJx3⟩⟩
theorem stops_any (n:Nat)(hn:1≤n)(b:Nat)(s:ByteArray)(hs:s.size≤maxLen)(w:World)(hb:b<w.heap.size)(hc:w.cell? ⟨b,0,none⟩=some (.string s)) :
  SeqStopsK Fence.wide n Tryz.prog 188 #[.pointer (some ⟨b,0,none⟩)] encP (KpB b) (fun ys=>ys=prs 0 (scn s.data.toList).1) (fun _=>True) (scn s.data.toList).1.length w:=fun l J Jx W hW hJ hJx hY h0 =>
 iter_any n hn l b s hs J Jx W hJ hY ((hW.cell (p:=⟨b,0,none⟩) hb).trans hc) (Nat.lt_of_lt_of_le hb hW.size) h0
end
section
open Go.RowKit Go.Shelf
attribute [local go_sem] Oper.semAt_some
theorem infoS:(Tryz.prog.info? 9).map (fun i=>(i.zero,i.size,i.bytes))=some (some (.string ⟨#[]⟩),1,16):=by kernel_rfl
theorem row_lower {w:World}{base b2 size n:Nat}{e:TypeId}{v:Value}{xs:List Value}(h:w.ownsRow base e size v n xs)(hb:b2≤base):w.ownsRow b2 e size v n xs:=by
 refine⟨h.1,?_⟩
 rcases h.2 with h0 | ⟨g,cap,cur,e,hg,hh,r⟩
 · exact .inl h0
 · exact .inr ⟨g,cap,cur,e,by omega,hh,r⟩
theorem cell_app {W w1:World}{n₀ b B:Nat}{e:TypeId}{size k:Nat}{v v' u:Value}{xs:List Value}{tmp:Obj}(hrow:W.ownsRow n₀ e size v k xs)(hb:b<n₀)(hgrow:(W.alloc tmp).grownBy w1 v.ownBlock)
  (hB:B≠b) (hu:W.cell? ⟨b,0,none⟩=some u):(w1.setCell ⟨B,0,none⟩ v').cell? ⟨b,0,none⟩=some u:=by
 have hlt:b<W.heap.size:=block_lt_of_cell hu
 have h1:(W.alloc tmp).cell? ⟨b,0,none⟩=some u:=(((Below.refl _ W).alloc (Nat.le_refl _) tmp).cell (p:=⟨b,0,none⟩) hlt).trans hu
 have h2:w1.heap[b]? = (W.alloc tmp).heap[b]?:=hgrow.block b (by simp;omega) (fun ej=>by
  rcases hrow.2 with ⟨rfl,_⟩ | ⟨g,cap,cur,rfl,hg,_,_⟩
  · simp[Value.ownBlock] at ej
  · have:b=g:=by simpa [Value.ownBlock] using ej
    omega)
 rw[World.cell?_setCell_other _ _ _ _ (by intro x;injection x with x;exact hB x)]
 simp only[World.cell?] at h1 ⊢
 rw[h2];exact h1
def OwnS (w:World)(base:Nat)(A:Option Addr)(n c:Nat)(rs:List (List UInt8)):Prop:=w.ownsRow base 9 1 (.slice A n c) n (rs.map fun r=>Value.string (bs r))
theorem scan_any (s:ByteArray)(w:World)(hs:s.size≤maxLen)(hbig:(scn s.data.toList).1.length*16≤140737488355328) :
  Calls Tryz.prog 122 #[.string s] w fun e w'=>∃ A n c,e=.returned (.tuple #[.slice A n c,.int .i64 (used s.data.toList)])∧OwnS w' w.heap.size A n c (scn s.data.toList).1∧Q w w':=by
 obtain⟨i0,hi,hz0,hz1,hz2⟩:=info_parts infoS
 refine(callsIn_wide (n:=6)).1 ?_
 refine callsIn_of_wp_marks Tryz.func122 rfl trivial ?_ rfl
 simp only[Tryz.ntmps122,List.size_toArray,List.length_cons,List.length_nil,Nat.reduceAdd,Nat.reduceSub,Array.replicate_succ,Array.replicate_zero,List.push_toArray,List.append_toArray,List.nil_append,List.cons_append]
 gi_wp2_with (refine⟨trivial,?_⟩;gi_at_call 160;refine(callsIn_wide.2 (records_any s _)).mono ?_;rintro e w' ⟨rfl,rfl⟩)
 have b1:=Boxed.new w 87 (.slice none 0 0)
 have b2:=Boxed.new (w.alloc (.cells #[.slice none 0 0] 87)) 3 (.int .i64 0)
 have b3:=Boxed.new ((w.alloc (.cells #[.slice none 0 0] 87)).alloc (.cells #[.int .i64 0] 3)) 9 (.string s)
 rw[World.size_alloc] at b2 b3
 rw[World.size_alloc] at b3
 have hml:(scn s.data.toList).1.length≤maxLen:=by unfold maxLen;omega
 have hB0:Below w.heap.size w (((w.alloc (.cells #[.slice none 0 0] 87)).alloc (.cells #[.int .i64 0] 3)).alloc (.cells #[.string s] 9)):=(((Q.refl w).alloc _).alloc _).alloc _
 refine wpIn_rangeFunc_ownG rfl (by omega) (gf := 188) (lb:=#[.pointer (some ⟨w.heap.size+1+1,0,none⟩)]) rfl trivial (enters_of Tryz.func188 (by kernel_rfl) rfl)
   (stops_any (6 - 1) (by omega) (w.heap.size+1+1) s hs _ (by simp) b3.cell) kpB_t (kpB_b (by simp)) (Below.refl _ _) (fun _=>rfl)
   (fun pre W=>(∃ v,Boxed W w.heap.size 87 v∧W.ownsRow (w.heap.size+3) 9 1 v pre.length (pre.map fun x=>Value.string x.1)∧True)∧Boxed W (w.heap.size+1) 3 (.int .i64 (lastE pre))∧Below w.heap.size (((w.alloc (.cells #[.slice none 0 0] 87)).alloc (.cells #[.int .i64 0] 3)).alloc (.cells #[.string s] 9)) W)
   (fun _ _ _=>False)
   (OwnFrom.and (Own.from (holdsRow_own (w.heap.size+3) w.heap.size 87 9 1 (fun pre:List Pz=>pre.length) (fun pre=>pre.map fun x=>Value.string x.1) (fun _ _=>True)) _) (OwnFrom.and (Own.from (boxed_own (w.heap.size+1) 3 (fun pre:List Pz=>.int .i64 (lastE pre))) _) (ownFrom_below (by simp;omega) (by simp;omega))))
   (fun _ _ _ _ _ hs _ _=>hs)
   ⟨⟨_,(b1.alloc _).alloc _,World.ownsRow_nil _ _ _ _,trivial⟩,b2.alloc _,Below.refl _ _⟩
   (fun x=>{ tmps:=#[.string s,undef,.slice none 0 0,.int .i64 0,.pointer (some ⟨w.heap.size,0,none⟩),.pointer (some ⟨w.heap.size+1,0,none⟩),.string x.1,.int .i64 x.2,.string s,.func (.func 188) #[] #[.pointer (some ⟨w.heap.size+1+1,0,none⟩)],.string x.1,.int .i64 x.2,undef,undef,undef,undef,undef,undef,undef],defers:=[] }) ?assign ?body ?done ?stop
 case assign =>
  intro l x W K hK
  simp only[encP]
  gi_wp2
  exact hK
 case body =>
  rintro l pre x W ⟨⟨v,hv,hrow,_⟩,hn,hB⟩ hlt
  have hc:=hv.cell
  have hBs:=hB.size
  have hwl:=hn.lt
  have hle3:w.heap.size+3≤W.heap.size:=by have:=hB.size;simp at this;omega
  have hBw:w.heap.size≤W.heap.size:=by omega
  clear hBs
  gi_wp2_with (gi_at_builtin;refine wpListIn_append_own _ rfl _ _ 87 rfl (w.heap.size+3) 9 i0 (.string ⟨#[]⟩) 1 16 Tryz.underlying87 hi hz0 hz1 hz2 rfl (by decide) _ _ _ rfl (hrow.alloc _) ⟨W.heap.size,0,none⟩ 1 1 [.string x.1] rfl rfl (cell_one_new _ _ _) (by simp[Value.oneCell']) (by omega) (by omega) (by simp;omega) ?_;intro v' w1 hown' hgrow _;obtain⟨g',cap',rfl⟩:=ownsRow_succ hown';obtain⟨hv1,hv2,hr2,hk2,hb2⟩:=hv.appended (by decide) (row_lower hrow (b2:=w.heap.size) (by omega)) hBw (Nat.le_refl _) (row_lower hown' (b2:=w.heap.size) (by omega)) hgrow;have hc1:=hv1.cell;have hf1:=hv1.frozen;have hn1:Boxed w1 (w.heap.size+1) 3 (.int .i64 (lastE pre)):=(hn.alloc _).kept hgrow (hn.not_row (by decide) hrow);have hc2:=hn1.cell;have hf2:=hn1.frozen)
  have hkp:KpB (w.heap.size+1+1) W _:=fun u hu=>cell_app (v':=Value.slice (some ⟨g',0,none⟩) (pre.length+1) cap') hrow (by omega) hgrow (B:=w.heap.size) (by omega) hu
  have hn2:=(hn1.other (B':=w.heap.size) (by omega) (Value.slice (some ⟨g',0,none⟩) (pre.length+1) cap')).set (.int .i64 x.2)
  have hr3:w1.ownsRow (w.heap.size+3) 9 1 (Value.slice (some ⟨g',0,none⟩) (pre.length+1) cap') (pre.length+1) (List.map (fun x=>Value.string x.1) pre++[.string x.1]):=hown'
  have hr4:=(hr3.kept (grownBy_setCell' w1 w.heap.size (Value.slice (some ⟨g',0,none⟩) (pre.length+1) cap')) (.inr (hv1.not_row (by decide) hr3).symm))
  have hv3:=hv2.other (B':=w.heap.size+1) (by omega) (.int .i64 x.2)
  have hr5:=hr4.kept (grownBy_setCell' _ (w.heap.size+1) (.int .i64 x.2)) (.inr ((hn1.other (B':=w.heap.size) (by omega) (Value.slice (some ⟨g',0,none⟩) (pre.length+1) cap')).not_row (by decide) hr4).symm)
  refine⟨(hk2.trans (KeepsOthers.setCell _ _ _)).from _,fun u hu=>?_,⟨_,hv3,by simpa using hr5,trivial⟩,by rw[lastE_snoc];exact hn2,hB.trans (hb2.setCell (p:=⟨w.heap.size+1,0,none⟩) (Nat.le_succ _) _)⟩
  rw[World.cell?_setCell_other _ _ _ _ (by intro z;injection z with z;omega)]
  exact hkp u hu
 case done =>
  rintro D ys W hD rfl ⟨⟨v,hv,hrow,_⟩,hn,hB⟩ hK
  obtain⟨A,c,rfl⟩:∃ A c,v=.slice A (prs 0 (scn s.data.toList).1).length c:=by
   rcases hrow.2 with ⟨e,h0⟩ | ⟨g,cap,cur,e,_⟩
   · exact⟨none,0,by rw[e,h0]⟩
   · exact⟨_,_,e⟩
  have hc:=hv.cell
  have hc2:=hn.cell
  have hQ:Q w W:=hB0.trans hB
  have hO:OwnS W w.heap.size A (prs 0 (scn s.data.toList).1).length c (scn s.data.toList).1:=by
   unfold OwnS
   rw[←prs_fst _ 0]
   exact row_lower hrow (by omega)
  have hE:lastE (prs 0 (scn s.data.toList).1)=(used s.data.toList:Int):=by rw[lastE_prs,used_flat]
  rw[hE] at hc2
  have hDw:w.heap.size≤D:=by simp at hD;omega
  clear hE hrow hv hn hB hD
  gi_wp2
  gi_region
  gi_wp2
  refine⟨by simp,.inl ⟨_,_,rfl,run_takeDeferred hK,?_⟩⟩
  exact⟨_,results_tmp2 rfl _ _ _,A,_,c,rfl,ownsRow_putObj (hO:World.ownsRow W.drew _ _ _ _ _ _) _ hK rfl,hQ.drew.below.trans (belowK_b (w:=w) (Nat.le_refl _) W.drew D _ _ hDw hK rfl rfl)⟩
 case stop =>
  rintro D c pre W _ _ h _
  exact h.elim
end
end Go.Proofs.YtccoknaaofmbcaaGreatDoor
