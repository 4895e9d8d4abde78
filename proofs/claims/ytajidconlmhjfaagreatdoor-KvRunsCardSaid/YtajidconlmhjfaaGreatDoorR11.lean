/- KvOpen2, KvCommit, KvCommit2, BatchShown, KvShown, DiskIn, KvIn: merged. -/
import Derived.Test.YtajidconlmhjfaaGreatDoorR10
import Derived.Test.YtajidconlmhjfaaGreatDoorR3
import Derived.Test.YtajidconlmhjfaaGreatDoorR2
import Derived.Test.YtajidconlmhjfaaGreatDoorR7
import Derived.Test.YtajidconlmhjfaaGreatDoorR9
import Derived.Test.YtajidconlmhjfaaGreatDoorR4
import Derived.Test.YtajidconlmhjfaaGreatDoorR8
import Derived.Test.YtajidconlmhjfaaGreatDoorR1
set_option linter.unusedVariables false
set_option linter.unusedSimpArgs false
set_option maxRecDepth 100000
namespace Go.Proofs.YtajidconlmhjfaaGreatDoor
section
open Go.RowKit Dkm Prm Km Wm
set_option maxHeartbeats 4000000 in
theorem kopen_mid (A:Option Addr) (n c:Nat) (d:Dk) (frm n0:Int) (s:Bm.Sta) (w:World) (a b:Addr) (hT:Kt w a b) (hd:Dsk w A n c d.fs) (hB:Bnd 2097152 d)
    (KB:Hid (∀ W,Q w W→Calls Tryz.prog 71 #[dkv A n c d.room d.fuse d.off] W fun e w'=>e=.returned (.tuple #[.int .i64 frm,.int .i64 n0,.nilIface])∧Q W w'))
    (KL:Hid (∀ W,Q w W→Calls Tryz.prog 72 #[dkv A n c d.room d.fuse d.off,.int .i64 n0] W (RetL2 W s)))
    (hb1:s.data.length≤1073741824) (hb2:s.toks.length≤1073741824) (hlen:(recM d frm).2.1.length≤1073741824) (hrs:∀ r∈(recM d frm).2.1,r.length≤2048) :
    Calls Tryz.prog 32 #[dkv A n c d.room d.fuse d.off] w (RetO w (opnC frm n0 s (recM d frm))):=by
  have HT:=Lib.hid hT
  have KR:=Lib.hid (fun W (hT:Tab W) (hd:Dsk W A n c d.fs)=>recover_any frm A n c d W hT hd hB)
  have HB:=Lib.hid (And.intro hb1 hb2)
  generalize recM d frm=r at KR hlen hrs ⊢
  obtain ⟨d2,rs,seg,er⟩:=r
  obtain ⟨l2,room2,fuse2,off2⟩:=d2
  obtain ⟨l,room,fuse,off⟩:=d
  have X0:Hid (Po w A n c ⟨l,room,fuse,off⟩ ((w.alloc (.cells #[.slice A n c,.int .i64 room,.int .i64 fuse,.bool off] 24)).alloc (.cells #[.slice none 0 0,.int .i64 0,.int .i64 0,.bool false,.int .i64 0,.int .i64 0,.int .i64 0,.slice none 0 0,.slice none 0 0,.bool false] 32))):=Lib.hid (Po.new hd)
  simp only at KR hlen hrs KB KL
  have HL:=Lib.hid (And.intro hlen hrs)
  clear hT hd hB hb1 hb2 hlen hrs
  by_cases he:er=0
  · subst he
    rw [show opnC frm n0 s (⟨l2,room2,fuse2,off2⟩,rs,seg,0)=endM frm n0 (⟨l2,room2,fuse2,off2⟩,rs,seg,0) (repM s rs) by unfold opnC;rw [if_neg (by simp)]]
    have KP:=Lib.hid (fun (L:Option Addr) (ln lc:Nat) (B:Option Addr) (bn bc:Nat) (C:Option Addr) (cn cc:Nat) (W:World) (hS:Sen W a b) (hB:In_ pairK W B bn bc s.data) (hC:In_ pairK W C cn cc s.toks) (hL:Strs W L ln rs)=>kreplay_any rs L ln lc B bn bc C cn cc s W a b hS hB hC hL (by rw [←hL.len];exact HL.out.1) HL.out.2 HB.out.1 HB.out.2)
    generalize repM s rs=R at KP ⊢
    go_enter Tryz.func32,Tryz.ntmps32
    go_upto_region 1 with (fail)
    generalize ((w.alloc (.cells #[.slice A n c,.int .i64 room,.int .i64 fuse,.bool off] 24)).alloc (.cells #[.slice none 0 0,.int .i64 0,.int .i64 0,.bool false,.int .i64 0,.int .i64 0,.int .i64 0,.slice none 0 0,.slice none 0 0,.bool false] 32))=W at X0 ⊢
    obtain ⟨⟨e0,e1,e2,e3⟩,f0,f1,f2,f3⟩:=X0.out.db.get4
    go_wp2_with fail
    refine (KB.out _ X0.out.q).mono ?_
    rintro e w1 ⟨rfl,q1⟩
    have X1:=Lib.hid (X0.out.step q1)
    clear q1 X0 e0 e1 e2 e3 f0 f1 f2 f3
    obtain ⟨⟨e0,e1,e2,e3⟩,f0,f1,f2,f3⟩:=X1.out.db.get4
    go_wp2_with fail
    refine (KL.out _ X1.out.q).mono ?_
    rintro e w2 ⟨B,bn,bc,C,cn,cc,rfl,iB,iC,q2⟩
    have X2:=Lib.hid (Ps.new (X1.out.step q2) iB iC)
    clear q2 iB iC X1 e0 e1 e2 e3 f0 f1 f2 f3
    go_upto_region 7 with (fail)
    generalize w2.alloc (.cells #[.slice B bn bc,.slice C cn cc] 30)=W2 at X2 ⊢
    obtain ⟨⟨e0,e1,e2,e3⟩,f0,f1,f2,f3⟩:=X2.out.po.db.get4
    go_wp2_with fail
    refine (KR.out _ (HT.out.tab.q X2.out.po.q) X2.out.po.dsk).mono ?_
    rintro e w3 ⟨A2,n2,c2,L,ln,lc,rfl,hd2,hf2,hl2,q3⟩
    have V0:=Lib.hid (X2.out.step q3)
    have V:=Lib.hid (V0.out.disk (d':=⟨l2,room2,fuse2,off2⟩) hd2)
    have HS2:=Lib.hid ((hl2.set4 (b:=w.heap.size) (by have:=X2.out.po.l;omega) (.slice A2 n2 c2) (.int .i64 room2) (.int .i64 fuse2) (.bool off2)).strs)
    clear q3 X2 hd2 hf2 hl2 e0 e1 e2 e3 f0 f1 f2 f3
    obtain ⟨⟨e0,e1,e2,e3⟩,f0,f1,f2,f3⟩:=V0.out.po.db.get4
    go_upto_region 8 with (fail)
    generalize ((((w3.setCell ⟨w.heap.size,0,none⟩ (.slice A2 n2 c2)).setCell ⟨w.heap.size,1,none⟩ (.int .i64 room2)).setCell ⟨w.heap.size,2,none⟩ (.int .i64 fuse2)).setCell ⟨w.heap.size,3,none⟩ (.bool off2))=W3 at V HS2 ⊢
    clear e0 e1 e2 e3 f0 f1 f2 f3 V0
    obtain ⟨⟨s0,s1⟩,t0,t1⟩:=V.out.sb.get2
    go_wp2_with fail
    refine (KP.out L ln lc B bn bc C cn cc _ (HT.out.sen.q V.out.po.q) V.out.data V.out.toks HS2.out).mono ?_
    rintro e w4 ⟨B4,bn4,bc4,C4,cn4,cc4,s4,v,rfl,iB,iC,q4,hv⟩
    have U0:=Lib.hid (V.out.step q4)
    have U:=Lib.hid (U0.out.set iB iC)
    have HV:=Lib.hid hv
    clear q4 V HS2 hv iB iC s0 s1 t0 t1
    obtain ⟨⟨s0,s1⟩,t0,t1⟩:=U0.out.sb.get2
    go_upto_region 11 with (fail)
    generalize ((w4.setCell ⟨w2.heap.size,0,none⟩ (.slice B4 bn4 bc4)).setCell ⟨w2.heap.size,1,none⟩ (.slice C4 cn4 cc4))=W4 at U ⊢
    clear s0 s1 t0 t1 U0
    have F0:=U.out.po.fin (p:=⟨A2,n2,c2,B4,bn4,bc4,C4,cn4,cc4⟩) (x:=⟨⟨l2,room2,fuse2,off2⟩,frm,seg,n0,s4,false⟩) ⟨U.out.po.dsk,U.out.data,U.out.toks⟩
    dsimp only [us10,stk] at F0
    have F:=Lib.hid F0
    obtain ⟨⟨e0,e1,e2,e3⟩,f0,f1,f2,f3⟩:=U.out.po.db.get4
    obtain ⟨⟨s0,s1⟩,t0,t1⟩:=U.out.sb.get2
    obtain ⟨g0,g1,g2,g3,g4,g5,g6,g7,g8,g9⟩:=kfree U.out.po.res
    obtain ⟨i0,i1,i2,i3,i4,i5,i6,i7,i8,i9⟩:=kget U.out.po.res
    clear U F0
    go_wp2
    obtain ⟨r0,r1,r2,r3,r4,r5,r6,r7,r8,r9⟩:=kget F.out.1
    refine bodyPost_ret (v:=.tuple #[kvV ⟨A2,n2,c2,B4,bn4,bc4,C4,cn4,cc4⟩ ⟨⟨l2,room2,fuse2,off2⟩,frm,seg,n0,s4,false⟩,v]) (by simp [results,Tryz.results32,go_sem,r0,r1,r2,r3,r4,r5,r6,r7,r8,r9]) rfl ?_
    rcases HV.out with ⟨hR,rfl⟩ | ⟨hR,hE⟩
    · rw [hR]
      exact ⟨_,_,.nilIface,rfl,F.out.2.1,F.out.2.2,.inl ⟨rfl,rfl⟩,fun _=>rfl⟩
    · rw [hR]
      exact ⟨_,_,v,rfl,F.out.2.1,F.out.2.2,hE,fun h=>absurd (show (3:Int)=0 from h) (by decide)⟩
  · rw [show opnC frm n0 s (⟨l2,room2,fuse2,off2⟩,rs,seg,er)=(ks0,er) by unfold opnC;rw [if_pos he]]
    have KW:Hid (∀ W,Q w W→Calls Tryz.prog 74 #[.int .i64 er] W fun ev w'=>ev=.returned (errV a b er)∧Q W w'):=Lib.hid (fun W q=>(kwrong_any er a b W (HT.out.q q).sen).mono fun ev w' h=>⟨h.1,by rw [h.2];exact Q.refl _⟩)
    go_enter Tryz.func32,Tryz.ntmps32
    go_upto_region 1 with (fail)
    generalize ((w.alloc (.cells #[.slice A n c,.int .i64 room,.int .i64 fuse,.bool off] 24)).alloc (.cells #[.slice none 0 0,.int .i64 0,.int .i64 0,.bool false,.int .i64 0,.int .i64 0,.int .i64 0,.slice none 0 0,.slice none 0 0,.bool false] 32))=W at X0 ⊢
    obtain ⟨⟨e0,e1,e2,e3⟩,f0,f1,f2,f3⟩:=X0.out.db.get4
    go_wp2_with fail
    refine (KB.out _ X0.out.q).mono ?_
    rintro e w1 ⟨rfl,q1⟩
    have X1:=Lib.hid (X0.out.step q1)
    clear q1 X0 e0 e1 e2 e3 f0 f1 f2 f3
    obtain ⟨⟨e0,e1,e2,e3⟩,f0,f1,f2,f3⟩:=X1.out.db.get4
    go_wp2_with fail
    refine (KL.out _ X1.out.q).mono ?_
    rintro e w2 ⟨B,bn,bc,C,cn,cc,rfl,iB,iC,q2⟩
    have X2:=Lib.hid (Ps.new (X1.out.step q2) iB iC)
    clear q2 iB iC X1 e0 e1 e2 e3 f0 f1 f2 f3
    go_upto_region 7 with (fail)
    generalize w2.alloc (.cells #[.slice B bn bc,.slice C cn cc] 30)=W2 at X2 ⊢
    obtain ⟨⟨e0,e1,e2,e3⟩,f0,f1,f2,f3⟩:=X2.out.po.db.get4
    go_wp2_with fail
    refine (KR.out _ (HT.out.tab.q X2.out.po.q) X2.out.po.dsk).mono ?_
    rintro e w3 ⟨A2,n2,c2,L,ln,lc,rfl,hd2,hf2,hl2,q3⟩
    have V0:=Lib.hid (X2.out.step q3)
    have V:=Lib.hid (V0.out.disk (d':=⟨l2,room2,fuse2,off2⟩) hd2)
    clear q3 X2 hd2 hf2 hl2 e0 e1 e2 e3 f0 f1 f2 f3
    obtain ⟨⟨e0,e1,e2,e3⟩,f0,f1,f2,f3⟩:=V0.out.po.db.get4
    go_upto_region 8 with (fail)
    generalize ((((w3.setCell ⟨w.heap.size,0,none⟩ (.slice A2 n2 c2)).setCell ⟨w.heap.size,1,none⟩ (.int .i64 room2)).setCell ⟨w.heap.size,2,none⟩ (.int .i64 fuse2)).setCell ⟨w.heap.size,3,none⟩ (.bool off2))=W3 at V ⊢
    clear e0 e1 e2 e3 f0 f1 f2 f3 V0
    go_wp2_with fail
    refine (KW.out _ V.out.po.q).mono ?_
    rintro e w4 ⟨rfl,q4⟩
    have U:=Lib.hid (V.out.po.step q4)
    clear q4 V
    have F0:=U.out.fin (p:=p0) (x:=ks0) (kr0 _)
    dsimp only [us10,stk,p0,ks0] at F0
    have F:=Lib.hid F0
    obtain ⟨g0,g1,g2,g3,g4,g5,g6,g7,g8,g9⟩:=kfree U.out.res
    obtain ⟨i0,i1,i2,i3,i4,i5,i6,i7,i8,i9⟩:=kget U.out.res
    clear U F0
    go_wp2
    obtain ⟨r0,r1,r2,r3,r4,r5,r6,r7,r8,r9⟩:=kget F.out.1
    refine bodyPost_ret (v:=.tuple #[kvV p0 ks0,errV a b er]) (by simp [results,Tryz.results32,go_sem,r0,r1,r2,r3,r4,r5,r6,r7,r8,r9,p0,ks0]) rfl ?_
    exact ⟨_,_,_,rfl,F.out.2.1,F.out.2.2,ev_wrong a b er,fun h=>absurd h he⟩
set_option maxHeartbeats 4000000 in
theorem kOpen_of (A:Option Addr) (n c:Nat) (d:Dk) (y:Ks×Int) (w:World) (hT:ErrT w) (hd:Dsk w A n c d.fs) (hz:y.2≠0→y.1=ks0)
    (KO:Hid (∀ W,Q w W→Calls Tryz.prog 32 #[dkv A n c d.room d.fuse d.off] W (RetO W y))) :
    Calls Tryz.prog 9 #[dkv A n c d.room d.fuse d.off] w (RetK w y.1 [.int .i64 y.2]):=by
  have HT:=Lib.hid hT
  have HZ:=Lib.hid hz
  obtain ⟨l,room,fuse,off⟩:=d
  have X0:Hid (Po w A n c ⟨l,room,fuse,off⟩ ((w.alloc (.cells #[.slice A n c,.int .i64 room,.int .i64 fuse,.bool off] 24)).alloc (.cells #[.slice none 0 0,.int .i64 0,.int .i64 0,.bool false,.int .i64 0,.int .i64 0,.int .i64 0,.slice none 0 0,.slice none 0 0,.bool false] 32))):=Lib.hid (Po.new hd)
  obtain ⟨y,er⟩:=y
  simp only at KO hz ⊢
  clear hT hd hz
  go_enter Tryz.func9,Tryz.ntmps9
  go_upto_region 1 with (fail)
  generalize ((w.alloc (.cells #[.slice A n c,.int .i64 room,.int .i64 fuse,.bool off] 24)).alloc (.cells #[.slice none 0 0,.int .i64 0,.int .i64 0,.bool false,.int .i64 0,.int .i64 0,.int .i64 0,.slice none 0 0,.slice none 0 0,.bool false] 32))=W at X0 ⊢
  obtain ⟨⟨e0,e1,e2,e3⟩,f0,f1,f2,f3⟩:=X0.out.db.get4
  go_wp2_with fail
  refine (KO.out _ X0.out.q).mono ?_
  rintro e w1 ⟨p,x,v,rfl,hk,q1,hv,hx⟩
  have X1:=Lib.hid (X0.out.step q1)
  have HK:=Lib.hid hk
  have HX:=Lib.hid hx
  have HV:=Lib.hid hv
  clear q1 X0 e0 e1 e2 e3 f0 f1 f2 f3 hk hx hv
  obtain ⟨A2,n2,c2,B2,bn2,bc2,C2,cn2,cc2⟩:=p
  obtain ⟨⟨l2,room2,fuse2,off2⟩,frm2,seg2,run2,s2,down2⟩:=x
  have Y:Hid (Kb (w1.alloc (.cells #[.slice A2 n2 c2,.int .i64 room2,.int .i64 fuse2,.bool off2,.int .i64 frm2,.int .i64 seg2,.int .i64 run2,.slice B2 bn2 bc2,.slice C2 cn2 cc2,.bool down2] 32)) w1.heap.size ⟨A2,n2,c2,B2,bn2,bc2,C2,cn2,cc2⟩ ⟨⟨l2,room2,fuse2,off2⟩,frm2,seg2,run2,s2,down2⟩):=Lib.hid (Kb.new HK.out)
  have X2:Hid (Po w A n c ⟨l,room,fuse,off⟩ (w1.alloc (.cells #[.slice A2 n2 c2,.int .i64 room2,.int .i64 fuse2,.bool off2,.int .i64 frm2,.int .i64 seg2,.int .i64 run2,.slice B2 bn2 bc2,.slice C2 cn2 cc2,.bool down2] 32))):=Lib.hid (X1.out.step ((Q.refl w1).alloc _))
  rcases HV.out with ⟨rfl,h0⟩ | ⟨⟨T,u,rfl⟩,h0⟩
  · have h0:er=0:=h0
    subst h0
    go_upto_region 2 with (fail)
    generalize (w1.alloc (.cells #[.slice A2 n2 c2,.int .i64 room2,.int .i64 fuse2,.bool off2,.int .i64 frm2,.int .i64 seg2,.int .i64 run2,.slice B2 bn2 bc2,.slice C2 cn2 cc2,.bool down2] 32))=W1 at X2 Y ⊢
    have F0:=X2.out.fin (p:=⟨A2,n2,c2,B2,bn2,bc2,C2,cn2,cc2⟩) (x:=⟨⟨l2,room2,fuse2,off2⟩,frm2,seg2,run2,s2,down2⟩) Y.out.is
    dsimp only [us10,stk] at F0
    have F:=Lib.hid F0
    obtain ⟨e0,e1,e2,e3,e4,e5,e6,e7,e8,e9⟩:=kget Y.out.box
    obtain ⟨g0,g1,g2,g3,g4,g5,g6,g7,g8,g9⟩:=kfree X2.out.res
    obtain ⟨i0,i1,i2,i3,i4,i5,i6,i7,i8,i9⟩:=kget X2.out.res
    clear F0 X1
    go_wp2
    obtain ⟨r0,r1,r2,r3,r4,r5,r6,r7,r8,r9⟩:=kget F.out.1
    refine bodyPost_ret (v:=.tuple #[kvV ⟨A2,n2,c2,B2,bn2,bc2,C2,cn2,cc2⟩ ⟨⟨l2,room2,fuse2,off2⟩,frm2,seg2,run2,s2,down2⟩,.int .i64 0]) (by simp [results,Tryz.results9,go_sem,r0,r1,r2,r3,r4,r5,r6,r7,r8,r9]) rfl ?_
    rw [show y=_ from (HX.out (by first | rfl | trivial)).symm]
    exact ⟨_,rfl,F.out.2.1,F.out.2.2⟩
  · have KN:=Lib.hid (fun W (q:Q w W)=>knum_any (fltW T u er) er W (.inr ⟨T,u,rfl⟩) (HT.out.q q))
    have hy:y=ks0:=HZ.out h0
    subst hy
    go_upto_region 2 with (fail)
    generalize (w1.alloc (.cells #[.slice A2 n2 c2,.int .i64 room2,.int .i64 fuse2,.bool off2,.int .i64 frm2,.int .i64 seg2,.int .i64 run2,.slice B2 bn2 bc2,.slice C2 cn2 cc2,.bool down2] 32))=W1 at X2 Y ⊢
    clear X1 Y
    go_wp2_with fail
    refine (KN.out _ X2.out.q).mono ?_
    rintro e w2 ⟨rfl,q2⟩
    have U:=Lib.hid (X2.out.step q2)
    clear q2 X2
    have F0:=U.out.fin (p:=p0) (x:=ks0) (kr0 _)
    dsimp only [us10,stk,p0,ks0] at F0
    have F:=Lib.hid F0
    obtain ⟨g0,g1,g2,g3,g4,g5,g6,g7,g8,g9⟩:=kfree U.out.res
    obtain ⟨i0,i1,i2,i3,i4,i5,i6,i7,i8,i9⟩:=kget U.out.res
    clear U F0
    go_wp2
    obtain ⟨r0,r1,r2,r3,r4,r5,r6,r7,r8,r9⟩:=kget F.out.1
    refine bodyPost_ret (v:=.tuple #[kvV p0 ks0,.int .i64 er]) (by simp [results,Tryz.results9,go_sem,r0,r1,r2,r3,r4,r5,r6,r7,r8,r9,p0,ks0]) rfl ?_
    exact ⟨p0,rfl,F.out.2.1,F.out.2.2⟩
theorem openM_no {d:Dk} (hm:(redd mB d.fs).2≠0):openM d=opnC 1 0 ⟨[],[]⟩ (recM d 1):=by
 have hb:begM d.fs=(1,0,0):=by unfold begM;rw [if_pos hm]
 unfold openM opnA
 rw [hb]
 simp only [ne_eq,not_true_eq_false,if_false]
 unfold opnB loadS
 simp only [if_true,ne_eq,not_true_eq_false,if_false]
theorem opnC_bad (frm run:Int) (s:Bm.Sta) (r:Dk×List (List UInt8)×Int×Int):(opnC frm run s r).2≠0→(opnC frm run s r).1=ks0:=by
 unfold opnC
 split
 · intro _;rfl
 · unfold endM
   split
   · intro _;rfl
   · intro h;exact absurd rfl h
theorem recF_le:∀ (n:Nat) (d:Dk) (frm seg:Int) (rs:List (List UInt8)) (last:Int),(∀ r∈rs,r.length≤2048)→∀ r∈(recF n d frm seg rs last).2.1,r.length≤2048
  | 0,_,_,_,_,_,h=>h
  | n + 1,d,frm,seg,rs,last,h=>by
    have hs:∀ l:List UInt8,∀ r∈rs++(scn l).1,r.length≤2048:=fun l r hr=>by
     rcases List.mem_append.1 hr with hr | hr
     · exact h r hr
     · exact (scd l).le r hr
    unfold recF
    split
    · exact h
    · split
      · exact h
      · split
        · exact recF_le n d frm (seg+1) _ seg (hs _)
        · split
          · intro r hr;cases hr
          · exact hs _
theorem recM_le (d:Dk) (frm:Int):∀ r∈(recM d frm).2.1,r.length≤2048:=by
 unfold recM
 split
 · intro r hr;cases hr
 · exact recF_le _ _ _ _ _ _ (fun r hr=>by cases hr)
theorem kOpen_no (A:Option Addr) (n c:Nat) (d:Dk) (w:World) (a b:Addr) (hT:Kt w a b) (hd:Dsk w A n c d.fs) (hB:Bnd 2097152 d) (hm:(redd mB d.fs).2≠0) (hlen:(recM d 1).2.1.length≤1073741824) :
    Calls Tryz.prog 9 #[dkv A n c d.room d.fuse d.off] w (RetK w (openM d).1 [.int .i64 (openM d).2]):=by
  rw [openM_no hm]
  refine kOpen_of A n c d _ w hT.typ hd (opnC_bad _ _ _ _) (Lib.hid fun W q=>?_)
  exact kopen_mid A n c d 1 0 ⟨[],[]⟩ W a b (hT.q q) (hd.q q) hB (Lib.hid fun W2 q2=>kbegin_no A n c d W2 ((hd.q q).q q2) (mx21 hB) hm) (Lib.hid fun W2 q2=>kload_zero A n c d W2) (Nat.zero_le _) (Nat.zero_le _) hlen (recM_le _ _)
set_option maxHeartbeats 4000000 in
theorem kCrash_of (p:Kp) (x:Ks) (K:Option Addr) (kn kc:Nat) (ks:List Int) (y:Ks×Int) (w:World) (hk:Kr w p x) (hI:Ints w K kn ks) (hkn:kn≤maxLen) (hs:∀ f∈x.d.fs,f.sf.size+f.wt.size≤maxLen)
    (KO:Hid (∀ A n c W,Q w W→Dsk W A n c (crs x.d ks).fs→Calls Tryz.prog 9 #[dkv A n c (crs x.d ks).room (crs x.d ks).fuse (crs x.d ks).off] W (RetK W y.1 [.int .i64 y.2]))) :
    Calls Tryz.prog 23 #[kvV p x,.slice K kn kc] w (RetK w y.1 [.int .i64 y.2]):=by
  have KC:=Lib.hid (fun W (h1:Dsk W p.A p.n p.c x.d.fs) (h2:Ints W K kn ks)=>crash_any p.A p.n p.c x.d.room x.d.fuse x.d.off K kn kc ks x.d.fs W h1 h2 hkn hs)
  have hfl:x.d.fs.length=p.n:=hk.dsk.len
  have hcl:(crs x.d ks).fs.length=x.d.fs.length:=crs_len _ _
  have hfew:(crs x.d ks).fs.length*48≤140737488355328:=by rw [hcl,hfl];exact hk.dsk.few
  have HI:=Lib.hid hI
  obtain ⟨A,n,c,B,bn,bc,C,cn,cc⟩:=p
  obtain ⟨⟨l,room,fuse,off⟩,frm,seg,run,s,down⟩:=x
  obtain ⟨y,er⟩:=y
  have X:Hid (Kc w (w.heap.size+1) ⟨A,n,c,B,bn,bc,C,cn,cc⟩ ⟨⟨l,room,fuse,off⟩,frm,seg,run,s,down⟩ ((w.alloc (.cells #[.slice A n c,.int .i64 room,.int .i64 fuse,.bool off,.int .i64 frm,.int .i64 seg,.int .i64 run,.slice B bn bc,.slice C cn cc,.bool down] 32)).alloc (.cells #[.slice none 0 0,.int .i64 0,.int .i64 0,.bool false,.int .i64 0,.int .i64 0,.int .i64 0,.slice none 0 0,.slice none 0 0,.bool false] 32))):=Lib.hid (Kc.two hk)
  simp only at KC KO hfew
  clear hk hI hs hfl hcl
  generalize crs ⟨l,room,fuse,off⟩ ks=d2 at KC KO hfew
  obtain ⟨l2,room2,fuse2,off2⟩:=d2
  simp only at KC KO hfew
  have HF:=Lib.hid hfew
  clear hfew
  go_enter Tryz.func23,Tryz.ntmps23
  go_upto_region 1 with (fail)
  generalize ((w.alloc (.cells #[.slice A n c,.int .i64 room,.int .i64 fuse,.bool off,.int .i64 frm,.int .i64 seg,.int .i64 run,.slice B bn bc,.slice C cn cc,.bool down] 32)).alloc (.cells #[.slice none 0 0,.int .i64 0,.int .i64 0,.bool false,.int .i64 0,.int .i64 0,.int .i64 0,.slice none 0 0,.slice none 0 0,.bool false] 32))=W at X ⊢
  obtain ⟨e0,e1,e2,e3,e4,e5,e6,e7,e8,e9⟩:=kget X.out.kb.box
  go_wp2_with fail
  refine (KC.out _ X.out.kb.is.dsk (HI.out.q X.out.q)).mono ?_
  rintro e w1 ⟨A1,n1,c1,rfl,o1,q1⟩
  have X1:=Lib.hid (X.out.step q1)
  have hd1:Dsk w1 A1 n1 c1 l2:=o1.dsk (by have:=o1.len;have:=HF.out;simp only at *;omega)
  have HD:=Lib.hid hd1
  clear hd1 o1 q1 X e0 e1 e2 e3 e4 e5 e6 e7 e8 e9
  go_wp2_with fail
  refine (KO.out _ _ _ _ X1.out.q HD.out).mono ?_
  rintro e w2 ⟨p2,rfl,k2,q2⟩
  have X2:=Lib.hid (X1.out.step q2)
  have K2:=Lib.hid k2
  clear k2 q2 X1
  obtain ⟨A2,n2,c2,B2,bn2,bc2,C2,cn2,cc2⟩:=p2
  obtain ⟨⟨l3,room3,fuse3,off3⟩,frm3,seg3,run3,s3,down3⟩:=y
  have F0:=X2.out.fin K2.out [.int .i64 er]
  have R0:=X2.out.boxR ⟨A2,n2,c2,B2,bn2,bc2,C2,cn2,cc2⟩ ⟨⟨l3,room3,fuse3,off3⟩,frm3,seg3,run3,s3,down3⟩
  dsimp only [us10,stk] at F0 R0
  have F:=Lib.hid F0
  have R:=Lib.hid R0
  obtain ⟨g0,g1,g2,g3,g4,g5,g6,g7,g8,g9⟩:=kfree X2.out.res
  obtain ⟨i0,i1,i2,i3,i4,i5,i6,i7,i8,i9⟩:=kget X2.out.res
  clear F0 R0 X2
  go_wp2
  obtain ⟨r0,r1,r2,r3,r4,r5,r6,r7,r8,r9⟩:=kget R.out
  refine bodyPost_ret (v:=.tuple #[kvV ⟨A2,n2,c2,B2,bn2,bc2,C2,cn2,cc2⟩ ⟨⟨l3,room3,fuse3,off3⟩,frm3,seg3,run3,s3,down3⟩,.int .i64 er]) (by simp [results,Tryz.results23,go_sem,r0,r1,r2,r3,r4,r5,r6,r7,r8,r9]) rfl ?_
  exact F.out
end
section
open Go.RowKit Dkm Prm Km Wm
theorem errV_is (a b:Addr) {e:Int} (h:e≠0):∃ T u,Value.iface T u=errV a b e:=⟨_,_,by unfold errV;rw [if_neg h]⟩
def RetE (w:World) (a b:Addr) (y:Ks×Int) (e:Ending) (w':World):Prop:=∃ p,e=.returned (.tuple #[kvV p y.1,errV a b y.2])∧Kr w' p y.1∧Q w w'
theorem Kc.finE {w wi:World} {r:Nat} {p p2:Kp} {x x2:Ks} (h:Kc w r p x wi) (hk:Kr wi p2 x2) (a b:Addr) (er:Int):RetE w a b (x2,er) (.returned (.tuple #[kvV p2 x2,errV a b er])) (stk wi r (us10 p2 x2)):=
  ⟨p2,rfl,(Kb.whole (y:=ks0) (q:=p0) h.res hk).is,Q.stk (Nat.le_of_lt h.lt) _ h.q⟩
structure Kz (w:World) (p:Kp) (x:Ks) (k:Int) (tok:ByteArray) (D:Option Addr) (dn dc:Nat) (wi:World):Prop where
  kc:Kc w (w.heap.size+1+1) p x wi
  bb:Bx wi (w.heap.size+1) [.int .i64 k,.string tok,.slice D dn dc]
theorem Kz.new {w:World} {p:Kp} {x:Ks} (h:Kr w p x) (k:Int) (tok:ByteArray) (D:Option Addr) (dn dc:Nat) :
    Kz w p x k tok D dn dc (((w.alloc (.cells (kL p x).toArray 32)).alloc (.cells #[.int .i64 k,.string tok,.slice D dn dc] 48)).alloc (.cells (kL p0 ks0).toArray 32)):=by
  refine ⟨⟨((Kb.new h).q ((Q.refl _).alloc _)).q ((Q.refl _).alloc _),?_,(((Q.refl w).alloc _).alloc _).alloc _,by omega⟩,?_⟩
  · have:=Bx.new ((w.alloc (.cells (kL p x).toArray 32)).alloc (.cells #[.int .i64 k,.string tok,.slice D dn dc] 48)) (kL p0 ks0) 32
    rw [show ((w.alloc (.cells (kL p x).toArray 32)).alloc (.cells #[.int .i64 k,.string tok,.slice D dn dc] 48)).heap.size=w.heap.size+1+1 by simp] at this
    exact this
  · have:=(Bx.new (w.alloc (.cells (kL p x).toArray 32)) [.int .i64 k,.string tok,.slice D dn dc] 48).alloc (.cells (kL p0 ks0).toArray 32)
    rw [show (w.alloc (.cells (kL p x).toArray 32)).heap.size=w.heap.size+1 by simp] at this
    exact this
section
variable {w wi wj:World} {p:Kp} {x:Ks} {k:Int} {tok:ByteArray} {D:Option Addr} {dn dc:Nat}
theorem Kz.step (h:Kz w p x k tok D dn dc wi) (q:Q wi wj):Kz w p x k tok D dn dc wj:=⟨h.kc.step q,h.bb.q q⟩
structure Ky (w:World) (p:Kp) (x:Ks) (k:Int) (tok:ByteArray) (D:Option Addr) (dn dc:Nat) (g:Nat) (B2:Option Addr) (bn2 bc2:Nat) (C2:Option Addr) (cn2 cc2:Nat) (s2:Bm.Sta) (wi:World):Prop where
  kz:Kz w p x k tok D dn dc wi
  sb:Bx wi g [.slice B2 bn2 bc2,.slice C2 cn2 cc2]
  gt:w.heap.size+1+1<g
  data:In_ pairK wi B2 bn2 bc2 s2.data
  toks:In_ pairK wi C2 cn2 cc2 s2.toks
variable {g:Nat} {B2:Option Addr} {bn2 bc2:Nat} {C2:Option Addr} {cn2 cc2:Nat} {s2:Bm.Sta}
theorem Ky.step (h:Ky w p x k tok D dn dc g B2 bn2 bc2 C2 cn2 cc2 s2 wi) (q:Q wi wj):Ky w p x k tok D dn dc g B2 bn2 bc2 C2 cn2 cc2 s2 wj:=⟨h.kz.step q,h.sb.q q,h.gt,h.data.q q,h.toks.q q⟩
theorem Kz.state (h:Kz w p x k tok D dn dc wi) (hd:In_ pairK wi B2 bn2 bc2 s2.data) (ht:In_ pairK wi C2 cn2 cc2 s2.toks) :
    Ky w p x k tok D dn dc wi.heap.size B2 bn2 bc2 C2 cn2 cc2 s2 (wi.alloc (.cells #[.slice B2 bn2 bc2,.slice C2 cn2 cc2] 30)):=by
  have hl:=h.kc.l
  have hq:Q wi (wi.alloc (.cells #[.slice B2 bn2 bc2,.slice C2 cn2 cc2] 30)):=(Q.refl wi).alloc _
  exact ⟨h.step hq,Bx.new wi [.slice B2 bn2 bc2,.slice C2 cn2 cc2] 30,by omega,hd.q hq,ht.q hq⟩
theorem Ky.put (h:Ky w p x k tok D dn dc g B2 bn2 bc2 C2 cn2 cc2 s2 wi) (us:List (Nat×Value)) (hu:∀ u∈us,u.1<(kL p x).length∧NT u.2) {p':Kp} {x':Ks} {W:World} (hw:stk wi w.heap.size us=W) (hk:Kc w (w.heap.size+1+1) p' x' W) :
    Ky w p' x' k tok D dn dc g B2 bn2 bc2 C2 cn2 cc2 s2 W:=by
  subst hw
  exact ⟨⟨hk,h.kz.bb.far_stk (by omega) us⟩,h.sb.far_stk (by have:=h.gt;omega) us,h.gt,h.data.stk h.kz.kc.kb.box (kL_nt _ _) us hu,h.toks.stk h.kz.kc.kb.box (kL_nt _ _) us hu⟩
theorem Ky.disk (h:Ky w p x k tok D dn dc g B2 bn2 bc2 C2 cn2 cc2 s2 wi) {A2:Option Addr} {n2 c2:Nat} {d2:Dk} (hd:Dsk wi A2 n2 c2 d2.fs) :
    Ky w ⟨A2,n2,c2,p.B,p.bn,p.bc,p.C,p.cn,p.cc⟩ ⟨d2,x.frm,x.seg,x.run,x.s,x.down⟩ k tok D dn dc g B2 bn2 bc2 C2 cn2 cc2 s2 ((((wi.setCell ⟨w.heap.size,0,none⟩ (.slice A2 n2 c2)).setCell ⟨w.heap.size,1,none⟩ (.int .i64 d2.room)).setCell ⟨w.heap.size,2,none⟩ (.int .i64 d2.fuse)).setCell ⟨w.heap.size,3,none⟩ (.bool d2.off)):=by
  have hok:∀ u∈[(0,Value.slice A2 n2 c2),(1,.int .i64 d2.room),(2,.int .i64 d2.fuse),(3,.bool d2.off)],u.1<(kL p x).length∧NT u.2:=by
   intro u hu
   simp only [List.mem_cons,List.not_mem_nil,or_false] at hu
   rcases hu with rfl | rfl | rfl | rfl<;>exact ⟨by simp [kL],fun s e=>by cases e⟩
  have hk:=h.kz.kc.disk hd
  exact Ky.put h _ hok (by simp only [stk]) hk
theorem Ky.segm (h:Ky w p x k tok D dn dc g B2 bn2 bc2 C2 cn2 cc2 s2 wi) (seg2:Int) :
    Ky w p ⟨x.d,x.frm,seg2,x.run,x.s,x.down⟩ k tok D dn dc g B2 bn2 bc2 C2 cn2 cc2 s2 (wi.setCell ⟨w.heap.size,5,none⟩ (.int .i64 seg2)):=by
  have hok:∀ u∈[(5,Value.int .i64 seg2)],u.1<(kL p x).length∧NT u.2:=by
   intro u hu
   simp only [List.mem_cons,List.not_mem_nil,or_false] at hu
   rcases hu with rfl<;>exact ⟨by simp [kL],fun s e=>by cases e⟩
  have hk:=h.kz.kc.segm seg2
  exact Ky.put h _ hok (by simp only [stk]) hk
end
set_option maxHeartbeats 4000000 in
theorem commit_down {A:Option Addr} {n c:Nat} {B:Option Addr} {bn bc:Nat} {C:Option Addr} {cn cc:Nat} {D:Option Addr} {dn dc:Nat} {l:List Fil} {room fuse:Int} {off:Bool} {frm seg run:Int} {s:Bm.Sta} (k:Int) (tok:ByteArray) (ws:List Wr) (w:World) (a b:Addr) (HK:Hid (Kr w ⟨A,n,c,B,bn,bc,C,cn,cc⟩ ⟨⟨l,room,fuse,off⟩,frm,seg,run,s,true⟩)) (KW:Hid (∀ (e:Int) W,Q w W→Calls Tryz.prog 74 #[.int .i64 e] W fun ev w'=>ev=.returned (errV a b e)∧Q W w')) (y:Ks×Int) (HR:Hid (y=(⟨⟨l,room,fuse,off⟩,frm,seg,run,s,true⟩,6))) :
    Calls Tryz.prog 51 #[kvV ⟨A,n,c,B,bn,bc,C,cn,cc⟩ ⟨⟨l,room,fuse,off⟩,frm,seg,run,s,true⟩,batV k tok D dn dc] w (RetE w a b y):=by
  obtain ⟨T,u,hve⟩:∃ T u,Value.iface T u=errV a b 6:=errV_is a b (by decide)
  have KV:Hid (∀ W,Q w W→Calls Tryz.prog 74 #[.int .i64 6] W fun ev w'=>ev=.returned (.iface T u)∧Q W w'):=Lib.hid (fun W q=>by rw [hve];exact KW.out 6 W q)
  have HV:=Lib.hid hve
  clear hve KW
  have Z:Hid (Kz w ⟨A,n,c,B,bn,bc,C,cn,cc⟩ ⟨⟨l,room,fuse,off⟩,frm,seg,run,s,true⟩ k tok D dn dc (((w.alloc (.cells #[.slice A n c,.int .i64 room,.int .i64 fuse,.bool off,.int .i64 frm,.int .i64 seg,.int .i64 run,.slice B bn bc,.slice C cn cc,.bool true] 32)).alloc (.cells #[.int .i64 k,.string tok,.slice D dn dc] 48)).alloc (.cells #[.slice none 0 0,.int .i64 0,.int .i64 0,.bool false,.int .i64 0,.int .i64 0,.int .i64 0,.slice none 0 0,.slice none 0 0,.bool false] 32))):=Lib.hid (Kz.new HK.out k tok D dn dc)
  go_enter Tryz.func51,Tryz.ntmps51
  go_upto_region 1 with (fail)
  generalize (((w.alloc (.cells #[.slice A n c,.int .i64 room,.int .i64 fuse,.bool off,.int .i64 frm,.int .i64 seg,.int .i64 run,.slice B bn bc,.slice C cn cc,.bool true] 32)).alloc (.cells #[.int .i64 k,.string tok,.slice D dn dc] 48)).alloc (.cells #[.slice none 0 0,.int .i64 0,.int .i64 0,.bool false,.int .i64 0,.int .i64 0,.int .i64 0,.slice none 0 0,.slice none 0 0,.bool false] 32))=W at Z ⊢
  have Y:=Lib.hid Z.out.kc
  clear Z HK
  obtain ⟨e0,e1,e2,e3,e4,e5,e6,e7,e8,e9⟩:=kget Y.out.kb.box
  obtain ⟨f0,f1,f2,f3,f4,f5,f6,f7,f8,f9⟩:=kfree Y.out.kb.box
  go_upto_region 2 with (fail)
  refine wp_region_held_drew (S:=fun w'=>Bx w' w.heap.size (kL ⟨A,n,c,B,bn,bc,C,cn,cc⟩ ⟨⟨l,room,fuse,off⟩,frm,seg,run,s,true⟩)) (by kernel_rfl) ?szz0 (fun hHeld=>?rzz0)
  case szz0 =>
   exact Y.out.kb.box.drew
  refine takeH 0 ?v1 ?y1 ?_
  case y1=>intro w hSw;obtain ⟨s0,s1,s2,s3,s4,s5,s6,s7,s8,s9⟩:=kget hSw;go_simp;try with_reducible rfl
  refine oneH 1 (fun K hK=>?_)
  go_simp
  refine (KV.out _ (Y.out.q.trans (Q.refl _).drew)).mono ?_
  rintro e w4 ⟨rfl,q4⟩
  have V:=Lib.hid (Y.out.step ((Q.refl _).drew.trans q4))
  have F:Hid (RetE w a b (⟨⟨l,room,fuse,off⟩,frm,seg,run,s,true⟩,6) (.returned (.tuple #[kvV ⟨A,n,c,B,bn,bc,C,cn,cc⟩ ⟨⟨l,room,fuse,off⟩,frm,seg,run,s,true⟩,.iface T u])) ((((((((((w4.setCell ⟨w.heap.size+1+1,0,none⟩ (.slice A n c)).setCell ⟨w.heap.size+1+1,1,none⟩ (.int .i64 room)).setCell ⟨w.heap.size+1+1,2,none⟩ (.int .i64 fuse)).setCell ⟨w.heap.size+1+1,3,none⟩ (.bool off)).setCell ⟨w.heap.size+1+1,4,none⟩ (.int .i64 frm)).setCell ⟨w.heap.size+1+1,5,none⟩ (.int .i64 seg)).setCell ⟨w.heap.size+1+1,6,none⟩ (.int .i64 run)).setCell ⟨w.heap.size+1+1,7,none⟩ (.slice B bn bc)).setCell ⟨w.heap.size+1+1,8,none⟩ (.slice C cn cc)).setCell ⟨w.heap.size+1+1,9,none⟩ (.bool true))):=Lib.hid (by rw [HV.out];exact V.out.finE V.out.kb.is a b 6)
  have R:Hid (Bx ((((((((((w4.setCell ⟨w.heap.size+1+1,0,none⟩ (.slice A n c)).setCell ⟨w.heap.size+1+1,1,none⟩ (.int .i64 room)).setCell ⟨w.heap.size+1+1,2,none⟩ (.int .i64 fuse)).setCell ⟨w.heap.size+1+1,3,none⟩ (.bool off)).setCell ⟨w.heap.size+1+1,4,none⟩ (.int .i64 frm)).setCell ⟨w.heap.size+1+1,5,none⟩ (.int .i64 seg)).setCell ⟨w.heap.size+1+1,6,none⟩ (.int .i64 run)).setCell ⟨w.heap.size+1+1,7,none⟩ (.slice B bn bc)).setCell ⟨w.heap.size+1+1,8,none⟩ (.slice C cn cc)).setCell ⟨w.heap.size+1+1,9,none⟩ (.bool true)) (w.heap.size+1+1) (kL ⟨A,n,c,B,bn,bc,C,cn,cc⟩ ⟨⟨l,room,fuse,off⟩,frm,seg,run,s,true⟩)):=Lib.hid (V.out.boxR ⟨A,n,c,B,bn,bc,C,cn,cc⟩ ⟨⟨l,room,fuse,off⟩,frm,seg,run,s,true⟩)
  have U:Hid (Bx ((((((((((w4.setCell ⟨w.heap.size+1+1,0,none⟩ (.slice A n c)).setCell ⟨w.heap.size+1+1,1,none⟩ (.int .i64 room)).setCell ⟨w.heap.size+1+1,2,none⟩ (.int .i64 fuse)).setCell ⟨w.heap.size+1+1,3,none⟩ (.bool off)).setCell ⟨w.heap.size+1+1,4,none⟩ (.int .i64 frm)).setCell ⟨w.heap.size+1+1,5,none⟩ (.int .i64 seg)).setCell ⟨w.heap.size+1+1,6,none⟩ (.int .i64 run)).setCell ⟨w.heap.size+1+1,7,none⟩ (.slice B bn bc)).setCell ⟨w.heap.size+1+1,8,none⟩ (.slice C cn cc)).setCell ⟨w.heap.size+1+1,9,none⟩ (.bool true)) w.heap.size (kL ⟨A,n,c,B,bn,bc,C,cn,cc⟩ ⟨⟨l,room,fuse,off⟩,frm,seg,run,s,true⟩)):=Lib.hid (V.out.kb.box.far_stk (by have:=V.out.lt;omega) (us10 ⟨A,n,c,B,bn,bc,C,cn,cc⟩ ⟨⟨l,room,fuse,off⟩,frm,seg,run,s,true⟩))
  go_wp2_with fail
  refine hK.out _ _ ?Szz4 (fun hHeld=>?_)
  case Szz4 =>
   exact V.out.kb.box
  clear hK K
  try simp only [Act.put,sA,sB,sC]
  refine oneH 2 (fun K hK=>?_)
  obtain ⟨g0,g1,g2,g3,g4,g5,g6,g7,g8,g9⟩:=kfree V.out.res
  obtain ⟨i0,i1,i2,i3,i4,i5,i6,i7,i8,i9⟩:=kget V.out.res
  go_simp
  refine hK.out _ _ ?Szz3 (fun hHeld=>?_)
  case Szz3 =>
   exact U.out
  clear hK K
  try simp only [Act.put,sA,sB,sC]
  refine tadH 3 ?_
  refine wpAnyH_done (by kernel_rfl) ?_ _
  clear V Y q4 U
  go_wp2
  (try rw [Exit.noGoto_ret])
  obtain ⟨r0,r1,r2,r3,r4,r5,r6,r7,r8,r9⟩:=kget R.out
  refine bodyPost_ret (v:=.tuple #[kvV ⟨A,n,c,B,bn,bc,C,cn,cc⟩ ⟨⟨l,room,fuse,off⟩,frm,seg,run,s,true⟩,.iface T u]) (by simp [results,Tryz.results51,go_sem,r0,r1,r2,r3,r4,r5,r6,r7,r8,r9]) rfl ?_
  rw [HR.out]
  exact F.out
set_option maxHeartbeats 4000000 in
theorem commit_bad {A:Option Addr} {n c:Nat} {B:Option Addr} {bn bc:Nat} {C:Option Addr} {cn cc:Nat} {D:Option Addr} {dn dc:Nat} {l:List Fil} {room fuse:Int} {off:Bool} {frm seg run:Int} {s:Bm.Sta} (k:Int) (tok:ByteArray) (ws:List Wr) (w:World) (a b:Addr) (s2:Bm.Sta) (er:Nat) (HK:Hid (Kr w ⟨A,n,c,B,bn,bc,C,cn,cc⟩ ⟨⟨l,room,fuse,off⟩,frm,seg,run,s,false⟩)) (KW:Hid (∀ (e:Int) W,Q w W→Calls Tryz.prog 74 #[.int .i64 e] W fun ev w'=>ev=.returned (errV a b e)∧Q W w')) (KD:Hid (∀ W,Q w W→Calls Tryz.prog 93 #[staV B bn bc C cn cc,batV k tok D dn dc] W (RetS W (s2,er)))) (hs1:s2.data.length*32≤140737488355328) (hs2:s2.toks.length*32≤140737488355328) (h0:er≠0) (y:Ks×Int) (HR:Hid (y=(⟨⟨l,room,fuse,off⟩,frm,seg,run,s,false⟩,(er:Int)))) :
    Calls Tryz.prog 51 #[kvV ⟨A,n,c,B,bn,bc,C,cn,cc⟩ ⟨⟨l,room,fuse,off⟩,frm,seg,run,s,false⟩,batV k tok D dn dc] w (RetE w a b y):=by
  obtain ⟨T,u,hve⟩:∃ T u,Value.iface T u=errV a b (er:Int):=errV_is a b (by omega)
  have KV:Hid (∀ W,Q w W→Calls Tryz.prog 74 #[.int .i64 (er:Int)] W fun ev w'=>ev=.returned (.iface T u)∧Q W w'):=Lib.hid (fun W q=>by rw [hve];exact KW.out (er:Int) W q)
  have HV:=Lib.hid hve
  clear hve KW
  have hb:((er:Int) != 0)=true:=by simp;omega
  clear h0
  have Z:Hid (Kz w ⟨A,n,c,B,bn,bc,C,cn,cc⟩ ⟨⟨l,room,fuse,off⟩,frm,seg,run,s,false⟩ k tok D dn dc (((w.alloc (.cells #[.slice A n c,.int .i64 room,.int .i64 fuse,.bool off,.int .i64 frm,.int .i64 seg,.int .i64 run,.slice B bn bc,.slice C cn cc,.bool false] 32)).alloc (.cells #[.int .i64 k,.string tok,.slice D dn dc] 48)).alloc (.cells #[.slice none 0 0,.int .i64 0,.int .i64 0,.bool false,.int .i64 0,.int .i64 0,.int .i64 0,.slice none 0 0,.slice none 0 0,.bool false] 32))):=Lib.hid (Kz.new HK.out k tok D dn dc)
  have H1:=Lib.hid hs1
  have H2:=Lib.hid hs2
  clear hs1 hs2
  go_enter Tryz.func51,Tryz.ntmps51
  go_upto_region 1 with (fail)
  generalize (((w.alloc (.cells #[.slice A n c,.int .i64 room,.int .i64 fuse,.bool off,.int .i64 frm,.int .i64 seg,.int .i64 run,.slice B bn bc,.slice C cn cc,.bool false] 32)).alloc (.cells #[.int .i64 k,.string tok,.slice D dn dc] 48)).alloc (.cells #[.slice none 0 0,.int .i64 0,.int .i64 0,.bool false,.int .i64 0,.int .i64 0,.int .i64 0,.slice none 0 0,.slice none 0 0,.bool false] 32))=W at Z ⊢
  clear HK
  obtain ⟨e0,e1,e2,e3,e4,e5,e6,e7,e8,e9⟩:=kget Z.out.kc.kb.box
  obtain ⟨f0,f1,f2,f3,f4,f5,f6,f7,f8,f9⟩:=kfree Z.out.kc.kb.box
  obtain ⟨⟨c0,c1,c2⟩,_⟩:=Z.out.bb.get3
  go_upto_region 3 with (fail)
  go_wp2_with fail
  refine (KD.out W Z.out.kc.q).mono ?_
  rintro e w1 ⟨B2,bc2,C2,cc2,rfl,o1,o2,q1⟩
  have Z1:=Lib.hid ((Z.out.step q1).state (o1.in_ H1.out) (o2.in_ H2.out))
  have L1:=(Z.out.step q1).kc.l
  clear Z o1 o2 q1 e0 e1 e2 e3 e4 e5 e6 e7 e8 e9 f0 f1 f2 f3 f4 f5 f6 f7 f8 f9 c0 c1 c2
  go_upto_region 4 with (fail)
  generalize w1.alloc (.cells #[.slice B2 s2.data.length bc2,.slice C2 s2.toks.length cc2] 30)=W1 at Z1 ⊢
  generalize w1.heap.size=sg at Z1 L1 ⊢
  have Y:=Lib.hid Z1.out.kz.kc
  clear Z1
  obtain ⟨e0,e1,e2,e3,e4,e5,e6,e7,e8,e9⟩:=kget Y.out.kb.box
  obtain ⟨f0,f1,f2,f3,f4,f5,f6,f7,f8,f9⟩:=kfree Y.out.kb.box
  go_upto_region 5 with (fail)
  refine wp_region_held_drew (S:=fun w'=>Bx w' w.heap.size (kL ⟨A,n,c,B,bn,bc,C,cn,cc⟩ ⟨⟨l,room,fuse,off⟩,frm,seg,run,s,false⟩)) (by kernel_rfl) ?szz5 (fun hHeld=>?rzz5)
  case szz5 =>
   exact Y.out.kb.box.drew
  refine takeH 0 ?v6 ?y6 ?_
  case y6=>intro w hSw;obtain ⟨s0,s1,s2,s3,s4,s5,s6,s7,s8,s9⟩:=kget hSw;go_simp;try with_reducible rfl
  refine tadH 1 ?_
  refine oneH 2 (fun K hK=>?_)
  go_simp
  refine (KV.out _ (Y.out.q.trans (Q.refl _).drew)).mono ?_
  rintro e w4 ⟨rfl,q4⟩
  have V:=Lib.hid (Y.out.step ((Q.refl _).drew.trans q4))
  have F:Hid (RetE w a b (⟨⟨l,room,fuse,off⟩,frm,seg,run,s,false⟩,(er:Int)) (.returned (.tuple #[kvV ⟨A,n,c,B,bn,bc,C,cn,cc⟩ ⟨⟨l,room,fuse,off⟩,frm,seg,run,s,false⟩,.iface T u])) ((((((((((w4.setCell ⟨w.heap.size+1+1,0,none⟩ (.slice A n c)).setCell ⟨w.heap.size+1+1,1,none⟩ (.int .i64 room)).setCell ⟨w.heap.size+1+1,2,none⟩ (.int .i64 fuse)).setCell ⟨w.heap.size+1+1,3,none⟩ (.bool off)).setCell ⟨w.heap.size+1+1,4,none⟩ (.int .i64 frm)).setCell ⟨w.heap.size+1+1,5,none⟩ (.int .i64 seg)).setCell ⟨w.heap.size+1+1,6,none⟩ (.int .i64 run)).setCell ⟨w.heap.size+1+1,7,none⟩ (.slice B bn bc)).setCell ⟨w.heap.size+1+1,8,none⟩ (.slice C cn cc)).setCell ⟨w.heap.size+1+1,9,none⟩ (.bool false))):=Lib.hid (by rw [HV.out];exact V.out.finE V.out.kb.is a b (er:Int))
  have R:Hid (Bx ((((((((((w4.setCell ⟨w.heap.size+1+1,0,none⟩ (.slice A n c)).setCell ⟨w.heap.size+1+1,1,none⟩ (.int .i64 room)).setCell ⟨w.heap.size+1+1,2,none⟩ (.int .i64 fuse)).setCell ⟨w.heap.size+1+1,3,none⟩ (.bool off)).setCell ⟨w.heap.size+1+1,4,none⟩ (.int .i64 frm)).setCell ⟨w.heap.size+1+1,5,none⟩ (.int .i64 seg)).setCell ⟨w.heap.size+1+1,6,none⟩ (.int .i64 run)).setCell ⟨w.heap.size+1+1,7,none⟩ (.slice B bn bc)).setCell ⟨w.heap.size+1+1,8,none⟩ (.slice C cn cc)).setCell ⟨w.heap.size+1+1,9,none⟩ (.bool false)) (w.heap.size+1+1) (kL ⟨A,n,c,B,bn,bc,C,cn,cc⟩ ⟨⟨l,room,fuse,off⟩,frm,seg,run,s,false⟩)):=Lib.hid (V.out.boxR ⟨A,n,c,B,bn,bc,C,cn,cc⟩ ⟨⟨l,room,fuse,off⟩,frm,seg,run,s,false⟩)
  have U:Hid (Bx ((((((((((w4.setCell ⟨w.heap.size+1+1,0,none⟩ (.slice A n c)).setCell ⟨w.heap.size+1+1,1,none⟩ (.int .i64 room)).setCell ⟨w.heap.size+1+1,2,none⟩ (.int .i64 fuse)).setCell ⟨w.heap.size+1+1,3,none⟩ (.bool off)).setCell ⟨w.heap.size+1+1,4,none⟩ (.int .i64 frm)).setCell ⟨w.heap.size+1+1,5,none⟩ (.int .i64 seg)).setCell ⟨w.heap.size+1+1,6,none⟩ (.int .i64 run)).setCell ⟨w.heap.size+1+1,7,none⟩ (.slice B bn bc)).setCell ⟨w.heap.size+1+1,8,none⟩ (.slice C cn cc)).setCell ⟨w.heap.size+1+1,9,none⟩ (.bool false)) w.heap.size (kL ⟨A,n,c,B,bn,bc,C,cn,cc⟩ ⟨⟨l,room,fuse,off⟩,frm,seg,run,s,false⟩)):=Lib.hid (V.out.kb.box.far_stk (by have:=V.out.lt;omega) (us10 ⟨A,n,c,B,bn,bc,C,cn,cc⟩ ⟨⟨l,room,fuse,off⟩,frm,seg,run,s,false⟩))
  go_wp2_with fail
  refine hK.out _ _ ?Szz10 (fun hHeld=>?_)
  case Szz10 =>
   exact V.out.kb.box
  clear hK K
  try simp only [Act.put,sA,sB,sC]
  refine oneH 3 (fun K hK=>?_)
  obtain ⟨g0,g1,g2,g3,g4,g5,g6,g7,g8,g9⟩:=kfree V.out.res
  obtain ⟨i0,i1,i2,i3,i4,i5,i6,i7,i8,i9⟩:=kget V.out.res
  go_simp
  refine hK.out _ _ ?Szz9 (fun hHeld=>?_)
  case Szz9 =>
   exact U.out
  clear hK K
  try simp only [Act.put,sA,sB,sC]
  refine tadH 4 ?_
  refine wpAnyH_done (by kernel_rfl) ?_ _
  clear V Y q4 U
  go_wp2
  (try rw [Exit.noGoto_ret])
  obtain ⟨r0,r1,r2,r3,r4,r5,r6,r7,r8,r9⟩:=kget R.out
  refine bodyPost_ret (v:=.tuple #[kvV ⟨A,n,c,B,bn,bc,C,cn,cc⟩ ⟨⟨l,room,fuse,off⟩,frm,seg,run,s,false⟩,.iface T u]) (by simp [results,Tryz.results51,go_sem,r0,r1,r2,r3,r4,r5,r6,r7,r8,r9]) rfl ?_
  rw [HR.out]
  exact F.out
set_option maxHeartbeats 4000000 in
theorem commit_put {A:Option Addr} {n c:Nat} {B:Option Addr} {bn bc:Nat} {C:Option Addr} {cn cc:Nat} {D:Option Addr} {dn dc:Nat} {l:List Fil} {room fuse:Int} {off:Bool} {frm seg run:Int} {s:Bm.Sta} (k:Int) (tok:ByteArray) (ws:List Wr) (w:World) (a b:Addr) (s2:Bm.Sta) (rc:ByteArray) (be:Int) (l1:List Fil) (room1 fuse1:Int) (off1:Bool) (seg1 er1:Int) (HT:Hid (Kt w a b)) (HK:Hid (Kr w ⟨A,n,c,B,bn,bc,C,cn,cc⟩ ⟨⟨l,room,fuse,off⟩,frm,seg,run,s,false⟩)) (KW:Hid (∀ (e:Int) W,Q w W→Calls Tryz.prog 74 #[.int .i64 e] W fun ev w'=>ev=.returned (errV a b e)∧Q W w')) (KD:Hid (∀ W,Q w W→Calls Tryz.prog 93 #[staV B bn bc C cn cc,batV k tok D dn dc] W (RetS W (s2,0)))) (hs1:s2.data.length*32≤140737488355328) (hs2:s2.toks.length*32≤140737488355328) (KB:Hid (∀ W,Q w W→Calls Tryz.prog 94 #[batV k tok D dn dc] W fun e w'=>e=.returned (.tuple #[.string rc,.int .i64 be])∧Q W w')) (KP:Hid (∀ W,Tab W→Dsk W A n c l→Calls Tryz.prog 95 #[dkv A n c room fuse off,.int .i64 seg,.string rc] W fun e w'=>RetW W ⟨l1,room1,fuse1,off1⟩ [.int .i64 seg1,.int .i64 er1] e w')) (h0:er1≠0) (y:Ks×Int) (HR:Hid (y=(⟨⟨l1,room1,fuse1,off1⟩,frm,seg1,run,s,false⟩,er1))) :
    Calls Tryz.prog 51 #[kvV ⟨A,n,c,B,bn,bc,C,cn,cc⟩ ⟨⟨l,room,fuse,off⟩,frm,seg,run,s,false⟩,batV k tok D dn dc] w (RetE w a b y):=by
  obtain ⟨T,u,hve⟩:∃ T u,Value.iface T u=errV a b er1:=errV_is a b h0
  have KV:Hid (∀ W,Q w W→Calls Tryz.prog 74 #[.int .i64 er1] W fun ev w'=>ev=.returned (.iface T u)∧Q W w'):=Lib.hid (fun W q=>by rw [hve];exact KW.out er1 W q)
  have HV:=Lib.hid hve
  clear hve KW
  have hb:(er1 == 0)=false:=by simpa using h0
  clear h0
  have Z:Hid (Kz w ⟨A,n,c,B,bn,bc,C,cn,cc⟩ ⟨⟨l,room,fuse,off⟩,frm,seg,run,s,false⟩ k tok D dn dc (((w.alloc (.cells #[.slice A n c,.int .i64 room,.int .i64 fuse,.bool off,.int .i64 frm,.int .i64 seg,.int .i64 run,.slice B bn bc,.slice C cn cc,.bool false] 32)).alloc (.cells #[.int .i64 k,.string tok,.slice D dn dc] 48)).alloc (.cells #[.slice none 0 0,.int .i64 0,.int .i64 0,.bool false,.int .i64 0,.int .i64 0,.int .i64 0,.slice none 0 0,.slice none 0 0,.bool false] 32))):=Lib.hid (Kz.new HK.out k tok D dn dc)
  have H1:=Lib.hid hs1
  have H2:=Lib.hid hs2
  clear hs1 hs2
  go_enter Tryz.func51,Tryz.ntmps51
  go_upto_region 1 with (fail)
  generalize (((w.alloc (.cells #[.slice A n c,.int .i64 room,.int .i64 fuse,.bool off,.int .i64 frm,.int .i64 seg,.int .i64 run,.slice B bn bc,.slice C cn cc,.bool false] 32)).alloc (.cells #[.int .i64 k,.string tok,.slice D dn dc] 48)).alloc (.cells #[.slice none 0 0,.int .i64 0,.int .i64 0,.bool false,.int .i64 0,.int .i64 0,.int .i64 0,.slice none 0 0,.slice none 0 0,.bool false] 32))=W at Z ⊢
  clear HK
  obtain ⟨e0,e1,e2,e3,e4,e5,e6,e7,e8,e9⟩:=kget Z.out.kc.kb.box
  obtain ⟨f0,f1,f2,f3,f4,f5,f6,f7,f8,f9⟩:=kfree Z.out.kc.kb.box
  obtain ⟨⟨c0,c1,c2⟩,_⟩:=Z.out.bb.get3
  go_upto_region 3 with (fail)
  go_wp2_with fail
  refine (KD.out W Z.out.kc.q).mono ?_
  rintro e w1 ⟨B2,bc2,C2,cc2,rfl,o1,o2,q1⟩
  have Z1:=Lib.hid ((Z.out.step q1).state (o1.in_ H1.out) (o2.in_ H2.out))
  have L1:=(Z.out.step q1).kc.l
  clear Z o1 o2 q1 e0 e1 e2 e3 e4 e5 e6 e7 e8 e9 f0 f1 f2 f3 f4 f5 f6 f7 f8 f9 c0 c1 c2
  go_upto_region 4 with (fail)
  generalize w1.alloc (.cells #[.slice B2 s2.data.length bc2,.slice C2 s2.toks.length cc2] 30)=W1 at Z1 ⊢
  generalize w1.heap.size=sg at Z1 L1 ⊢
  obtain ⟨e0,e1,e2,e3,e4,e5,e6,e7,e8,e9⟩:=kget Z1.out.kz.kc.kb.box
  obtain ⟨f0,f1,f2,f3,f4,f5,f6,f7,f8,f9⟩:=kfree Z1.out.kz.kc.kb.box
  obtain ⟨⟨c0,c1,c2⟩,_⟩:=Z1.out.kz.bb.get3
  go_upto_region 6 with (fail)
  go_wp2_with fail
  refine (KB.out W1 Z1.out.kz.kc.q).mono ?_
  rintro e w2 ⟨rfl,q2⟩
  have Z2:=Lib.hid (Z1.out.step q2)
  clear Z1 q2 e0 e1 e2 e3 e4 e5 e6 e7 e8 e9 f0 f1 f2 f3 f4 f5 f6 f7 f8 f9 c0 c1 c2
  obtain ⟨e0,e1,e2,e3,e4,e5,e6,e7,e8,e9⟩:=kget Z2.out.kz.kc.kb.box
  obtain ⟨f0,f1,f2,f3,f4,f5,f6,f7,f8,f9⟩:=kfree Z2.out.kz.kc.kb.box
  go_upto_region 7 with (fail)
  go_wp2_with fail
  refine (KP.out w2 (HT.out.q Z2.out.kz.kc.q).tab Z2.out.kz.kc.kb.is.dsk).mono ?_
  rintro e w3 ⟨A3,n3,c3,rfl,hd3,hf3,q3⟩
  have Z3:=Lib.hid (((Z2.out.step q3).disk (d2:=⟨l1,room1,fuse1,off1⟩) hd3).segm seg1)
  clear e0 e1 e2 e3 e4 e5 e6 e7 e8 e9 f0 f1 f2 f3 f4 f5 f6 f7 f8 f9
  obtain ⟨e0,e1,e2,e3,e4,e5,e6,e7,e8,e9⟩:=kget (Z2.out.step q3).kz.kc.kb.box
  obtain ⟨f0,f1,f2,f3,f4,f5,f6,f7,f8,f9⟩:=kfree (Z2.out.step q3).kz.kc.kb.box
  clear Z2 hd3 hf3 q3
  go_upto_region 8 with (fail)
  generalize ((((w3.setCell ⟨w.heap.size,0,none⟩ (.slice A3 n3 c3)).setCell ⟨w.heap.size,1,none⟩ (.int .i64 room1)).setCell ⟨w.heap.size,2,none⟩ (.int .i64 fuse1)).setCell ⟨w.heap.size,3,none⟩ (.bool off1)).setCell ⟨w.heap.size,5,none⟩ (.int .i64 seg1)=W3 at Z3 ⊢
  clear e0 e1 e2 e3 e4 e5 e6 e7 e8 e9 f0 f1 f2 f3 f4 f5 f6 f7 f8 f9
  obtain ⟨e0,e1,e2,e3,e4,e5,e6,e7,e8,e9⟩:=kget Z3.out.kz.kc.kb.box
  obtain ⟨f0,f1,f2,f3,f4,f5,f6,f7,f8,f9⟩:=kfree Z3.out.kz.kc.kb.box
  have Y:=Lib.hid Z3.out.kz.kc
  clear Z3
  go_upto_region 12 with (fail)
  refine wp_region_held_drew (S:=fun w'=>Bx w' w.heap.size (kL ⟨A3,n3,c3,B,bn,bc,C,cn,cc⟩ ⟨⟨l1,room1,fuse1,off1⟩,frm,seg1,run,s,false⟩)) (by kernel_rfl) ?szz11 (fun hHeld=>?rzz11)
  case szz11 =>
   exact Y.out.kb.box.drew
  refine takeH 0 ?v12 ?y12 ?_
  case y12=>intro w hSw;obtain ⟨s0,s1,s2,s3,s4,s5,s6,s7,s8,s9⟩:=kget hSw;go_simp;try with_reducible rfl
  refine tadH 1 ?_
  refine oneH 2 (fun K hK=>?_)
  go_simp
  refine (KV.out _ (Y.out.q.trans (Q.refl _).drew)).mono ?_
  rintro e w4 ⟨rfl,q4⟩
  have V:=Lib.hid (Y.out.step ((Q.refl _).drew.trans q4))
  have F:Hid (RetE w a b (⟨⟨l1,room1,fuse1,off1⟩,frm,seg1,run,s,false⟩,er1) (.returned (.tuple #[kvV ⟨A3,n3,c3,B,bn,bc,C,cn,cc⟩ ⟨⟨l1,room1,fuse1,off1⟩,frm,seg1,run,s,false⟩,.iface T u])) ((((((((((w4.setCell ⟨w.heap.size+1+1,0,none⟩ (.slice A3 n3 c3)).setCell ⟨w.heap.size+1+1,1,none⟩ (.int .i64 room1)).setCell ⟨w.heap.size+1+1,2,none⟩ (.int .i64 fuse1)).setCell ⟨w.heap.size+1+1,3,none⟩ (.bool off1)).setCell ⟨w.heap.size+1+1,4,none⟩ (.int .i64 frm)).setCell ⟨w.heap.size+1+1,5,none⟩ (.int .i64 seg1)).setCell ⟨w.heap.size+1+1,6,none⟩ (.int .i64 run)).setCell ⟨w.heap.size+1+1,7,none⟩ (.slice B bn bc)).setCell ⟨w.heap.size+1+1,8,none⟩ (.slice C cn cc)).setCell ⟨w.heap.size+1+1,9,none⟩ (.bool false))):=Lib.hid (by rw [HV.out];exact V.out.finE V.out.kb.is a b er1)
  have R:Hid (Bx ((((((((((w4.setCell ⟨w.heap.size+1+1,0,none⟩ (.slice A3 n3 c3)).setCell ⟨w.heap.size+1+1,1,none⟩ (.int .i64 room1)).setCell ⟨w.heap.size+1+1,2,none⟩ (.int .i64 fuse1)).setCell ⟨w.heap.size+1+1,3,none⟩ (.bool off1)).setCell ⟨w.heap.size+1+1,4,none⟩ (.int .i64 frm)).setCell ⟨w.heap.size+1+1,5,none⟩ (.int .i64 seg1)).setCell ⟨w.heap.size+1+1,6,none⟩ (.int .i64 run)).setCell ⟨w.heap.size+1+1,7,none⟩ (.slice B bn bc)).setCell ⟨w.heap.size+1+1,8,none⟩ (.slice C cn cc)).setCell ⟨w.heap.size+1+1,9,none⟩ (.bool false)) (w.heap.size+1+1) (kL ⟨A3,n3,c3,B,bn,bc,C,cn,cc⟩ ⟨⟨l1,room1,fuse1,off1⟩,frm,seg1,run,s,false⟩)):=Lib.hid (V.out.boxR ⟨A3,n3,c3,B,bn,bc,C,cn,cc⟩ ⟨⟨l1,room1,fuse1,off1⟩,frm,seg1,run,s,false⟩)
  have U:Hid (Bx ((((((((((w4.setCell ⟨w.heap.size+1+1,0,none⟩ (.slice A3 n3 c3)).setCell ⟨w.heap.size+1+1,1,none⟩ (.int .i64 room1)).setCell ⟨w.heap.size+1+1,2,none⟩ (.int .i64 fuse1)).setCell ⟨w.heap.size+1+1,3,none⟩ (.bool off1)).setCell ⟨w.heap.size+1+1,4,none⟩ (.int .i64 frm)).setCell ⟨w.heap.size+1+1,5,none⟩ (.int .i64 seg1)).setCell ⟨w.heap.size+1+1,6,none⟩ (.int .i64 run)).setCell ⟨w.heap.size+1+1,7,none⟩ (.slice B bn bc)).setCell ⟨w.heap.size+1+1,8,none⟩ (.slice C cn cc)).setCell ⟨w.heap.size+1+1,9,none⟩ (.bool false)) w.heap.size (kL ⟨A3,n3,c3,B,bn,bc,C,cn,cc⟩ ⟨⟨l1,room1,fuse1,off1⟩,frm,seg1,run,s,false⟩)):=Lib.hid (V.out.kb.box.far_stk (by have:=V.out.lt;omega) (us10 ⟨A3,n3,c3,B,bn,bc,C,cn,cc⟩ ⟨⟨l1,room1,fuse1,off1⟩,frm,seg1,run,s,false⟩))
  go_wp2_with fail
  refine hK.out _ _ ?Szz16 (fun hHeld=>?_)
  case Szz16 =>
   exact V.out.kb.box
  clear hK K
  try simp only [Act.put,sA,sB,sC]
  refine oneH 3 (fun K hK=>?_)
  obtain ⟨g0,g1,g2,g3,g4,g5,g6,g7,g8,g9⟩:=kfree V.out.res
  obtain ⟨i0,i1,i2,i3,i4,i5,i6,i7,i8,i9⟩:=kget V.out.res
  go_simp
  refine hK.out _ _ ?Szz15 (fun hHeld=>?_)
  case Szz15 =>
   exact U.out
  clear hK K
  try simp only [Act.put,sA,sB,sC]
  refine tadH 4 ?_
  refine wpAnyH_done (by kernel_rfl) ?_ _
  clear V Y q4 U
  go_wp2
  (try rw [Exit.noGoto_ret])
  obtain ⟨r0,r1,r2,r3,r4,r5,r6,r7,r8,r9⟩:=kget R.out
  refine bodyPost_ret (v:=.tuple #[kvV ⟨A3,n3,c3,B,bn,bc,C,cn,cc⟩ ⟨⟨l1,room1,fuse1,off1⟩,frm,seg1,run,s,false⟩,.iface T u]) (by simp [results,Tryz.results51,go_sem,r0,r1,r2,r3,r4,r5,r6,r7,r8,r9]) rfl ?_
  rw [HR.out]
  exact F.out
set_option maxHeartbeats 4000000 in
theorem commit_syn {A:Option Addr} {n c:Nat} {B:Option Addr} {bn bc:Nat} {C:Option Addr} {cn cc:Nat} {D:Option Addr} {dn dc:Nat} {l:List Fil} {room fuse:Int} {off:Bool} {frm seg run:Int} {s:Bm.Sta} (k:Int) (tok:ByteArray) (ws:List Wr) (w:World) (a b:Addr) (s2:Bm.Sta) (rc:ByteArray) (be:Int) (l1:List Fil) (room1 fuse1:Int) (off1:Bool) (seg1:Int) (l2:List Fil) (room2 fuse2:Int) (off2:Bool) (er2:Int) (HT:Hid (Kt w a b)) (HK:Hid (Kr w ⟨A,n,c,B,bn,bc,C,cn,cc⟩ ⟨⟨l,room,fuse,off⟩,frm,seg,run,s,false⟩)) (KW:Hid (∀ (e:Int) W,Q w W→Calls Tryz.prog 74 #[.int .i64 e] W fun ev w'=>ev=.returned (errV a b e)∧Q W w')) (KD:Hid (∀ W,Q w W→Calls Tryz.prog 93 #[staV B bn bc C cn cc,batV k tok D dn dc] W (RetS W (s2,0)))) (hs1:s2.data.length*32≤140737488355328) (hs2:s2.toks.length*32≤140737488355328) (KB:Hid (∀ W,Q w W→Calls Tryz.prog 94 #[batV k tok D dn dc] W fun e w'=>e=.returned (.tuple #[.string rc,.int .i64 be])∧Q W w')) (KP:Hid (∀ W,Tab W→Dsk W A n c l→Calls Tryz.prog 95 #[dkv A n c room fuse off,.int .i64 seg,.string rc] W fun e w'=>RetW W ⟨l1,room1,fuse1,off1⟩ [.int .i64 seg1,.int .i64 0] e w')) (KS:Hid (∀ W A n c,Tab W→Dsk W A n c l1→Calls Tryz.prog 96 #[dkv A n c room1 fuse1 off1,.int .i64 seg1] W fun e w'=>RetW W ⟨l2,room2,fuse2,off2⟩ [.int .i64 er2] e w')) (h0:er2≠0) (y:Ks×Int) (HR:Hid (y=(⟨⟨l2,room2,fuse2,off2⟩,frm,seg1,run,s,false⟩,er2))) :
    Calls Tryz.prog 51 #[kvV ⟨A,n,c,B,bn,bc,C,cn,cc⟩ ⟨⟨l,room,fuse,off⟩,frm,seg,run,s,false⟩,batV k tok D dn dc] w (RetE w a b y):=by
  obtain ⟨T,u,hve⟩:∃ T u,Value.iface T u=errV a b er2:=errV_is a b h0
  have KV:Hid (∀ W,Q w W→Calls Tryz.prog 74 #[.int .i64 er2] W fun ev w'=>ev=.returned (.iface T u)∧Q W w'):=Lib.hid (fun W q=>by rw [hve];exact KW.out er2 W q)
  have HV:=Lib.hid hve
  clear hve KW
  have hb:(er2 == 0)=false:=by simpa using h0
  clear h0
  have Z:Hid (Kz w ⟨A,n,c,B,bn,bc,C,cn,cc⟩ ⟨⟨l,room,fuse,off⟩,frm,seg,run,s,false⟩ k tok D dn dc (((w.alloc (.cells #[.slice A n c,.int .i64 room,.int .i64 fuse,.bool off,.int .i64 frm,.int .i64 seg,.int .i64 run,.slice B bn bc,.slice C cn cc,.bool false] 32)).alloc (.cells #[.int .i64 k,.string tok,.slice D dn dc] 48)).alloc (.cells #[.slice none 0 0,.int .i64 0,.int .i64 0,.bool false,.int .i64 0,.int .i64 0,.int .i64 0,.slice none 0 0,.slice none 0 0,.bool false] 32))):=Lib.hid (Kz.new HK.out k tok D dn dc)
  have H1:=Lib.hid hs1
  have H2:=Lib.hid hs2
  clear hs1 hs2
  go_enter Tryz.func51,Tryz.ntmps51
  go_upto_region 1 with (fail)
  generalize (((w.alloc (.cells #[.slice A n c,.int .i64 room,.int .i64 fuse,.bool off,.int .i64 frm,.int .i64 seg,.int .i64 run,.slice B bn bc,.slice C cn cc,.bool false] 32)).alloc (.cells #[.int .i64 k,.string tok,.slice D dn dc] 48)).alloc (.cells #[.slice none 0 0,.int .i64 0,.int .i64 0,.bool false,.int .i64 0,.int .i64 0,.int .i64 0,.slice none 0 0,.slice none 0 0,.bool false] 32))=W at Z ⊢
  clear HK
  obtain ⟨e0,e1,e2,e3,e4,e5,e6,e7,e8,e9⟩:=kget Z.out.kc.kb.box
  obtain ⟨f0,f1,f2,f3,f4,f5,f6,f7,f8,f9⟩:=kfree Z.out.kc.kb.box
  obtain ⟨⟨c0,c1,c2⟩,_⟩:=Z.out.bb.get3
  go_upto_region 3 with (fail)
  go_wp2_with fail
  refine (KD.out W Z.out.kc.q).mono ?_
  rintro e w1 ⟨B2,bc2,C2,cc2,rfl,o1,o2,q1⟩
  have Z1:=Lib.hid ((Z.out.step q1).state (o1.in_ H1.out) (o2.in_ H2.out))
  have L1:=(Z.out.step q1).kc.l
  clear Z o1 o2 q1 e0 e1 e2 e3 e4 e5 e6 e7 e8 e9 f0 f1 f2 f3 f4 f5 f6 f7 f8 f9 c0 c1 c2
  go_upto_region 4 with (fail)
  generalize w1.alloc (.cells #[.slice B2 s2.data.length bc2,.slice C2 s2.toks.length cc2] 30)=W1 at Z1 ⊢
  generalize w1.heap.size=sg at Z1 L1 ⊢
  obtain ⟨e0,e1,e2,e3,e4,e5,e6,e7,e8,e9⟩:=kget Z1.out.kz.kc.kb.box
  obtain ⟨f0,f1,f2,f3,f4,f5,f6,f7,f8,f9⟩:=kfree Z1.out.kz.kc.kb.box
  obtain ⟨⟨c0,c1,c2⟩,_⟩:=Z1.out.kz.bb.get3
  go_upto_region 6 with (fail)
  go_wp2_with fail
  refine (KB.out W1 Z1.out.kz.kc.q).mono ?_
  rintro e w2 ⟨rfl,q2⟩
  have Z2:=Lib.hid (Z1.out.step q2)
  clear Z1 q2 e0 e1 e2 e3 e4 e5 e6 e7 e8 e9 f0 f1 f2 f3 f4 f5 f6 f7 f8 f9 c0 c1 c2
  obtain ⟨e0,e1,e2,e3,e4,e5,e6,e7,e8,e9⟩:=kget Z2.out.kz.kc.kb.box
  obtain ⟨f0,f1,f2,f3,f4,f5,f6,f7,f8,f9⟩:=kfree Z2.out.kz.kc.kb.box
  go_upto_region 7 with (fail)
  go_wp2_with fail
  refine (KP.out w2 (HT.out.q Z2.out.kz.kc.q).tab Z2.out.kz.kc.kb.is.dsk).mono ?_
  rintro e w3 ⟨A3,n3,c3,rfl,hd3,hf3,q3⟩
  have Z3:=Lib.hid (((Z2.out.step q3).disk (d2:=⟨l1,room1,fuse1,off1⟩) hd3).segm seg1)
  clear e0 e1 e2 e3 e4 e5 e6 e7 e8 e9 f0 f1 f2 f3 f4 f5 f6 f7 f8 f9
  obtain ⟨e0,e1,e2,e3,e4,e5,e6,e7,e8,e9⟩:=kget (Z2.out.step q3).kz.kc.kb.box
  obtain ⟨f0,f1,f2,f3,f4,f5,f6,f7,f8,f9⟩:=kfree (Z2.out.step q3).kz.kc.kb.box
  clear Z2 hd3 hf3 q3
  go_upto_region 8 with (fail)
  generalize ((((w3.setCell ⟨w.heap.size,0,none⟩ (.slice A3 n3 c3)).setCell ⟨w.heap.size,1,none⟩ (.int .i64 room1)).setCell ⟨w.heap.size,2,none⟩ (.int .i64 fuse1)).setCell ⟨w.heap.size,3,none⟩ (.bool off1)).setCell ⟨w.heap.size,5,none⟩ (.int .i64 seg1)=W3 at Z3 ⊢
  clear e0 e1 e2 e3 e4 e5 e6 e7 e8 e9 f0 f1 f2 f3 f4 f5 f6 f7 f8 f9
  obtain ⟨e0,e1,e2,e3,e4,e5,e6,e7,e8,e9⟩:=kget Z3.out.kz.kc.kb.box
  obtain ⟨f0,f1,f2,f3,f4,f5,f6,f7,f8,f9⟩:=kfree Z3.out.kz.kc.kb.box
  go_upto_region 9 with (fail)
  go_wp2_with fail
  refine (KS.out W3 A3 n3 c3 (HT.out.q Z3.out.kz.kc.q).tab Z3.out.kz.kc.kb.is.dsk).mono ?_
  rintro e w5 ⟨A5,n5,c5,rfl,hd5,hf5,q5⟩
  have Z5:=Lib.hid ((Z3.out.step q5).disk (d2:=⟨l2,room2,fuse2,off2⟩) hd5)
  clear e0 e1 e2 e3 e4 e5 e6 e7 e8 e9 f0 f1 f2 f3 f4 f5 f6 f7 f8 f9
  obtain ⟨e0,e1,e2,e3,e4,e5,e6,e7,e8,e9⟩:=kget (Z3.out.step q5).kz.kc.kb.box
  obtain ⟨f0,f1,f2,f3,f4,f5,f6,f7,f8,f9⟩:=kfree (Z3.out.step q5).kz.kc.kb.box
  clear Z3 hd5 hf5 q5
  go_upto_region 10 with (fail)
  generalize ((((w5.setCell ⟨w.heap.size,0,none⟩ (.slice A5 n5 c5)).setCell ⟨w.heap.size,1,none⟩ (.int .i64 room2)).setCell ⟨w.heap.size,2,none⟩ (.int .i64 fuse2)).setCell ⟨w.heap.size,3,none⟩ (.bool off2))=W5 at Z5 ⊢
  clear e0 e1 e2 e3 e4 e5 e6 e7 e8 e9 f0 f1 f2 f3 f4 f5 f6 f7 f8 f9
  obtain ⟨e0,e1,e2,e3,e4,e5,e6,e7,e8,e9⟩:=kget Z5.out.kz.kc.kb.box
  obtain ⟨f0,f1,f2,f3,f4,f5,f6,f7,f8,f9⟩:=kfree Z5.out.kz.kc.kb.box
  have Y:=Lib.hid Z5.out.kz.kc
  clear Z5
  go_upto_region 12 with (fail)
  refine wp_region_held_drew (S:=fun w'=>Bx w' w.heap.size (kL ⟨A5,n5,c5,B,bn,bc,C,cn,cc⟩ ⟨⟨l2,room2,fuse2,off2⟩,frm,seg1,run,s,false⟩)) (by kernel_rfl) ?szz17 (fun hHeld=>?rzz17)
  case szz17 =>
   exact Y.out.kb.box.drew
  refine takeH 0 ?v18 ?y18 ?_
  case y18=>intro w hSw;obtain ⟨s0,s1,s2,s3,s4,s5,s6,s7,s8,s9⟩:=kget hSw;go_simp;try with_reducible rfl
  refine tadH 1 ?_
  refine oneH 2 (fun K hK=>?_)
  go_simp
  refine (KV.out _ (Y.out.q.trans (Q.refl _).drew)).mono ?_
  rintro e w4 ⟨rfl,q4⟩
  have V:=Lib.hid (Y.out.step ((Q.refl _).drew.trans q4))
  have F:Hid (RetE w a b (⟨⟨l2,room2,fuse2,off2⟩,frm,seg1,run,s,false⟩,er2) (.returned (.tuple #[kvV ⟨A5,n5,c5,B,bn,bc,C,cn,cc⟩ ⟨⟨l2,room2,fuse2,off2⟩,frm,seg1,run,s,false⟩,.iface T u])) ((((((((((w4.setCell ⟨w.heap.size+1+1,0,none⟩ (.slice A5 n5 c5)).setCell ⟨w.heap.size+1+1,1,none⟩ (.int .i64 room2)).setCell ⟨w.heap.size+1+1,2,none⟩ (.int .i64 fuse2)).setCell ⟨w.heap.size+1+1,3,none⟩ (.bool off2)).setCell ⟨w.heap.size+1+1,4,none⟩ (.int .i64 frm)).setCell ⟨w.heap.size+1+1,5,none⟩ (.int .i64 seg1)).setCell ⟨w.heap.size+1+1,6,none⟩ (.int .i64 run)).setCell ⟨w.heap.size+1+1,7,none⟩ (.slice B bn bc)).setCell ⟨w.heap.size+1+1,8,none⟩ (.slice C cn cc)).setCell ⟨w.heap.size+1+1,9,none⟩ (.bool false))):=Lib.hid (by rw [HV.out];exact V.out.finE V.out.kb.is a b er2)
  have R:Hid (Bx ((((((((((w4.setCell ⟨w.heap.size+1+1,0,none⟩ (.slice A5 n5 c5)).setCell ⟨w.heap.size+1+1,1,none⟩ (.int .i64 room2)).setCell ⟨w.heap.size+1+1,2,none⟩ (.int .i64 fuse2)).setCell ⟨w.heap.size+1+1,3,none⟩ (.bool off2)).setCell ⟨w.heap.size+1+1,4,none⟩ (.int .i64 frm)).setCell ⟨w.heap.size+1+1,5,none⟩ (.int .i64 seg1)).setCell ⟨w.heap.size+1+1,6,none⟩ (.int .i64 run)).setCell ⟨w.heap.size+1+1,7,none⟩ (.slice B bn bc)).setCell ⟨w.heap.size+1+1,8,none⟩ (.slice C cn cc)).setCell ⟨w.heap.size+1+1,9,none⟩ (.bool false)) (w.heap.size+1+1) (kL ⟨A5,n5,c5,B,bn,bc,C,cn,cc⟩ ⟨⟨l2,room2,fuse2,off2⟩,frm,seg1,run,s,false⟩)):=Lib.hid (V.out.boxR ⟨A5,n5,c5,B,bn,bc,C,cn,cc⟩ ⟨⟨l2,room2,fuse2,off2⟩,frm,seg1,run,s,false⟩)
  have U:Hid (Bx ((((((((((w4.setCell ⟨w.heap.size+1+1,0,none⟩ (.slice A5 n5 c5)).setCell ⟨w.heap.size+1+1,1,none⟩ (.int .i64 room2)).setCell ⟨w.heap.size+1+1,2,none⟩ (.int .i64 fuse2)).setCell ⟨w.heap.size+1+1,3,none⟩ (.bool off2)).setCell ⟨w.heap.size+1+1,4,none⟩ (.int .i64 frm)).setCell ⟨w.heap.size+1+1,5,none⟩ (.int .i64 seg1)).setCell ⟨w.heap.size+1+1,6,none⟩ (.int .i64 run)).setCell ⟨w.heap.size+1+1,7,none⟩ (.slice B bn bc)).setCell ⟨w.heap.size+1+1,8,none⟩ (.slice C cn cc)).setCell ⟨w.heap.size+1+1,9,none⟩ (.bool false)) w.heap.size (kL ⟨A5,n5,c5,B,bn,bc,C,cn,cc⟩ ⟨⟨l2,room2,fuse2,off2⟩,frm,seg1,run,s,false⟩)):=Lib.hid (V.out.kb.box.far_stk (by have:=V.out.lt;omega) (us10 ⟨A5,n5,c5,B,bn,bc,C,cn,cc⟩ ⟨⟨l2,room2,fuse2,off2⟩,frm,seg1,run,s,false⟩))
  go_wp2_with fail
  refine hK.out _ _ ?Szz22 (fun hHeld=>?_)
  case Szz22 =>
   exact V.out.kb.box
  clear hK K
  try simp only [Act.put,sA,sB,sC]
  refine oneH 3 (fun K hK=>?_)
  obtain ⟨g0,g1,g2,g3,g4,g5,g6,g7,g8,g9⟩:=kfree V.out.res
  obtain ⟨i0,i1,i2,i3,i4,i5,i6,i7,i8,i9⟩:=kget V.out.res
  go_simp
  refine hK.out _ _ ?Szz21 (fun hHeld=>?_)
  case Szz21 =>
   exact U.out
  clear hK K
  try simp only [Act.put,sA,sB,sC]
  refine tadH 4 ?_
  refine wpAnyH_done (by kernel_rfl) ?_ _
  clear V Y q4 U
  go_wp2
  (try rw [Exit.noGoto_ret])
  obtain ⟨r0,r1,r2,r3,r4,r5,r6,r7,r8,r9⟩:=kget R.out
  refine bodyPost_ret (v:=.tuple #[kvV ⟨A5,n5,c5,B,bn,bc,C,cn,cc⟩ ⟨⟨l2,room2,fuse2,off2⟩,frm,seg1,run,s,false⟩,.iface T u]) (by simp [results,Tryz.results51,go_sem,r0,r1,r2,r3,r4,r5,r6,r7,r8,r9]) rfl ?_
  rw [HR.out]
  exact F.out
set_option maxHeartbeats 4000000 in
theorem commit_ok {A:Option Addr} {n c:Nat} {B:Option Addr} {bn bc:Nat} {C:Option Addr} {cn cc:Nat} {D:Option Addr} {dn dc:Nat} {l:List Fil} {room fuse:Int} {off:Bool} {frm seg run:Int} {s:Bm.Sta} (k:Int) (tok:ByteArray) (ws:List Wr) (w:World) (a b:Addr) (s2:Bm.Sta) (rc:ByteArray) (be:Int) (l1:List Fil) (room1 fuse1:Int) (off1:Bool) (seg1:Int) (l2:List Fil) (room2 fuse2:Int) (off2:Bool) (er2:Int) (HT:Hid (Kt w a b)) (HK:Hid (Kr w ⟨A,n,c,B,bn,bc,C,cn,cc⟩ ⟨⟨l,room,fuse,off⟩,frm,seg,run,s,false⟩)) (KW:Hid (∀ (e:Int) W,Q w W→Calls Tryz.prog 74 #[.int .i64 e] W fun ev w'=>ev=.returned (errV a b e)∧Q W w')) (KD:Hid (∀ W,Q w W→Calls Tryz.prog 93 #[staV B bn bc C cn cc,batV k tok D dn dc] W (RetS W (s2,0)))) (hs1:s2.data.length*32≤140737488355328) (hs2:s2.toks.length*32≤140737488355328) (KB:Hid (∀ W,Q w W→Calls Tryz.prog 94 #[batV k tok D dn dc] W fun e w'=>e=.returned (.tuple #[.string rc,.int .i64 be])∧Q W w')) (KP:Hid (∀ W,Tab W→Dsk W A n c l→Calls Tryz.prog 95 #[dkv A n c room fuse off,.int .i64 seg,.string rc] W fun e w'=>RetW W ⟨l1,room1,fuse1,off1⟩ [.int .i64 seg1,.int .i64 0] e w')) (KS:Hid (∀ W A n c,Tab W→Dsk W A n c l1→Calls Tryz.prog 96 #[dkv A n c room1 fuse1 off1,.int .i64 seg1] W fun e w'=>RetW W ⟨l2,room2,fuse2,off2⟩ [.int .i64 0] e w')) (y:Ks×Int) (HR:Hid (y=(⟨⟨l2,room2,fuse2,off2⟩,frm,seg1,run,s2,false⟩,0))) :
    Calls Tryz.prog 51 #[kvV ⟨A,n,c,B,bn,bc,C,cn,cc⟩ ⟨⟨l,room,fuse,off⟩,frm,seg,run,s,false⟩,batV k tok D dn dc] w (RetE w a b y):=by
  have hve:Value.nilIface=errV a b 0:=(errV_nil a b).symm
  have KV:Hid (∀ W,Q w W→Calls Tryz.prog 74 #[.int .i64 0] W fun ev w'=>ev=.returned .nilIface∧Q W w'):=Lib.hid (fun W q=>by rw [hve];exact KW.out 0 W q)
  have HV:=Lib.hid hve
  clear hve KW
  have Z:Hid (Kz w ⟨A,n,c,B,bn,bc,C,cn,cc⟩ ⟨⟨l,room,fuse,off⟩,frm,seg,run,s,false⟩ k tok D dn dc (((w.alloc (.cells #[.slice A n c,.int .i64 room,.int .i64 fuse,.bool off,.int .i64 frm,.int .i64 seg,.int .i64 run,.slice B bn bc,.slice C cn cc,.bool false] 32)).alloc (.cells #[.int .i64 k,.string tok,.slice D dn dc] 48)).alloc (.cells #[.slice none 0 0,.int .i64 0,.int .i64 0,.bool false,.int .i64 0,.int .i64 0,.int .i64 0,.slice none 0 0,.slice none 0 0,.bool false] 32))):=Lib.hid (Kz.new HK.out k tok D dn dc)
  have H1:=Lib.hid hs1
  have H2:=Lib.hid hs2
  clear hs1 hs2
  go_enter Tryz.func51,Tryz.ntmps51
  go_upto_region 1 with (fail)
  generalize (((w.alloc (.cells #[.slice A n c,.int .i64 room,.int .i64 fuse,.bool off,.int .i64 frm,.int .i64 seg,.int .i64 run,.slice B bn bc,.slice C cn cc,.bool false] 32)).alloc (.cells #[.int .i64 k,.string tok,.slice D dn dc] 48)).alloc (.cells #[.slice none 0 0,.int .i64 0,.int .i64 0,.bool false,.int .i64 0,.int .i64 0,.int .i64 0,.slice none 0 0,.slice none 0 0,.bool false] 32))=W at Z ⊢
  clear HK
  obtain ⟨e0,e1,e2,e3,e4,e5,e6,e7,e8,e9⟩:=kget Z.out.kc.kb.box
  obtain ⟨f0,f1,f2,f3,f4,f5,f6,f7,f8,f9⟩:=kfree Z.out.kc.kb.box
  obtain ⟨⟨c0,c1,c2⟩,_⟩:=Z.out.bb.get3
  go_upto_region 3 with (fail)
  go_wp2_with fail
  refine (KD.out W Z.out.kc.q).mono ?_
  rintro e w1 ⟨B2,bc2,C2,cc2,rfl,o1,o2,q1⟩
  have Z1:=Lib.hid ((Z.out.step q1).state (o1.in_ H1.out) (o2.in_ H2.out))
  have L1:=(Z.out.step q1).kc.l
  clear Z o1 o2 q1 e0 e1 e2 e3 e4 e5 e6 e7 e8 e9 f0 f1 f2 f3 f4 f5 f6 f7 f8 f9 c0 c1 c2
  go_upto_region 4 with (fail)
  generalize w1.alloc (.cells #[.slice B2 s2.data.length bc2,.slice C2 s2.toks.length cc2] 30)=W1 at Z1 ⊢
  generalize w1.heap.size=sg at Z1 L1 ⊢
  obtain ⟨e0,e1,e2,e3,e4,e5,e6,e7,e8,e9⟩:=kget Z1.out.kz.kc.kb.box
  obtain ⟨f0,f1,f2,f3,f4,f5,f6,f7,f8,f9⟩:=kfree Z1.out.kz.kc.kb.box
  obtain ⟨⟨c0,c1,c2⟩,_⟩:=Z1.out.kz.bb.get3
  go_upto_region 6 with (fail)
  go_wp2_with fail
  refine (KB.out W1 Z1.out.kz.kc.q).mono ?_
  rintro e w2 ⟨rfl,q2⟩
  have Z2:=Lib.hid (Z1.out.step q2)
  clear Z1 q2 e0 e1 e2 e3 e4 e5 e6 e7 e8 e9 f0 f1 f2 f3 f4 f5 f6 f7 f8 f9 c0 c1 c2
  obtain ⟨e0,e1,e2,e3,e4,e5,e6,e7,e8,e9⟩:=kget Z2.out.kz.kc.kb.box
  obtain ⟨f0,f1,f2,f3,f4,f5,f6,f7,f8,f9⟩:=kfree Z2.out.kz.kc.kb.box
  go_upto_region 7 with (fail)
  go_wp2_with fail
  refine (KP.out w2 (HT.out.q Z2.out.kz.kc.q).tab Z2.out.kz.kc.kb.is.dsk).mono ?_
  rintro e w3 ⟨A3,n3,c3,rfl,hd3,hf3,q3⟩
  have Z3:=Lib.hid (((Z2.out.step q3).disk (d2:=⟨l1,room1,fuse1,off1⟩) hd3).segm seg1)
  clear e0 e1 e2 e3 e4 e5 e6 e7 e8 e9 f0 f1 f2 f3 f4 f5 f6 f7 f8 f9
  obtain ⟨e0,e1,e2,e3,e4,e5,e6,e7,e8,e9⟩:=kget (Z2.out.step q3).kz.kc.kb.box
  obtain ⟨f0,f1,f2,f3,f4,f5,f6,f7,f8,f9⟩:=kfree (Z2.out.step q3).kz.kc.kb.box
  clear Z2 hd3 hf3 q3
  go_upto_region 8 with (fail)
  generalize ((((w3.setCell ⟨w.heap.size,0,none⟩ (.slice A3 n3 c3)).setCell ⟨w.heap.size,1,none⟩ (.int .i64 room1)).setCell ⟨w.heap.size,2,none⟩ (.int .i64 fuse1)).setCell ⟨w.heap.size,3,none⟩ (.bool off1)).setCell ⟨w.heap.size,5,none⟩ (.int .i64 seg1)=W3 at Z3 ⊢
  clear e0 e1 e2 e3 e4 e5 e6 e7 e8 e9 f0 f1 f2 f3 f4 f5 f6 f7 f8 f9
  obtain ⟨e0,e1,e2,e3,e4,e5,e6,e7,e8,e9⟩:=kget Z3.out.kz.kc.kb.box
  obtain ⟨f0,f1,f2,f3,f4,f5,f6,f7,f8,f9⟩:=kfree Z3.out.kz.kc.kb.box
  go_upto_region 9 with (fail)
  go_wp2_with fail
  refine (KS.out W3 A3 n3 c3 (HT.out.q Z3.out.kz.kc.q).tab Z3.out.kz.kc.kb.is.dsk).mono ?_
  rintro e w5 ⟨A5,n5,c5,rfl,hd5,hf5,q5⟩
  have Z5:=Lib.hid ((Z3.out.step q5).disk (d2:=⟨l2,room2,fuse2,off2⟩) hd5)
  clear e0 e1 e2 e3 e4 e5 e6 e7 e8 e9 f0 f1 f2 f3 f4 f5 f6 f7 f8 f9
  obtain ⟨e0,e1,e2,e3,e4,e5,e6,e7,e8,e9⟩:=kget (Z3.out.step q5).kz.kc.kb.box
  obtain ⟨f0,f1,f2,f3,f4,f5,f6,f7,f8,f9⟩:=kfree (Z3.out.step q5).kz.kc.kb.box
  clear Z3 hd5 hf5 q5
  go_upto_region 10 with (fail)
  generalize ((((w5.setCell ⟨w.heap.size,0,none⟩ (.slice A5 n5 c5)).setCell ⟨w.heap.size,1,none⟩ (.int .i64 room2)).setCell ⟨w.heap.size,2,none⟩ (.int .i64 fuse2)).setCell ⟨w.heap.size,3,none⟩ (.bool off2))=W5 at Z5 ⊢
  clear e0 e1 e2 e3 e4 e5 e6 e7 e8 e9 f0 f1 f2 f3 f4 f5 f6 f7 f8 f9
  obtain ⟨e0,e1,e2,e3,e4,e5,e6,e7,e8,e9⟩:=kget Z5.out.kz.kc.kb.box
  obtain ⟨f0,f1,f2,f3,f4,f5,f6,f7,f8,f9⟩:=kfree Z5.out.kz.kc.kb.box
  have Y:=Lib.hid (Z5.out.kz.kc.state Z5.out.data Z5.out.toks)
  obtain ⟨⟨u0,u1⟩,_⟩:=Z5.out.sb.get2
  clear Z5
  go_upto_region 12 with (fail)
  generalize (W5.setCell ⟨w.heap.size,7,none⟩ (.slice B2 s2.data.length bc2)).setCell ⟨w.heap.size,8,none⟩ (.slice C2 s2.toks.length cc2)=W6 at Y ⊢
  clear e0 e1 e2 e3 e4 e5 e6 e7 e8 e9 f0 f1 f2 f3 f4 f5 f6 f7 f8 f9 u0 u1
  obtain ⟨e0,e1,e2,e3,e4,e5,e6,e7,e8,e9⟩:=kget Y.out.kb.box
  obtain ⟨f0,f1,f2,f3,f4,f5,f6,f7,f8,f9⟩:=kfree Y.out.kb.box
  refine wp_region_held_drew (S:=fun w'=>Bx w' w.heap.size (kL ⟨A5,n5,c5,B2,s2.data.length,bc2,C2,s2.toks.length,cc2⟩ ⟨⟨l2,room2,fuse2,off2⟩,frm,seg1,run,s2,false⟩)) (by kernel_rfl) ?szz23 (fun hHeld=>?rzz23)
  case szz23 =>
   exact Y.out.kb.box.drew
  refine takeH 0 ?v24 ?y24 ?_
  case y24=>intro w hSw;obtain ⟨s0,s1,s2,s3,s4,s5,s6,s7,s8,s9⟩:=kget hSw;go_simp;try with_reducible rfl
  refine tadH 1 ?_
  refine oneH 2 (fun K hK=>?_)
  go_simp
  refine (KV.out _ (Y.out.q.trans (Q.refl _).drew)).mono ?_
  rintro e w4 ⟨rfl,q4⟩
  have V:=Lib.hid (Y.out.step ((Q.refl _).drew.trans q4))
  have F:Hid (RetE w a b (⟨⟨l2,room2,fuse2,off2⟩,frm,seg1,run,s2,false⟩,0) (.returned (.tuple #[kvV ⟨A5,n5,c5,B2,s2.data.length,bc2,C2,s2.toks.length,cc2⟩ ⟨⟨l2,room2,fuse2,off2⟩,frm,seg1,run,s2,false⟩,.nilIface])) ((((((((((w4.setCell ⟨w.heap.size+1+1,0,none⟩ (.slice A5 n5 c5)).setCell ⟨w.heap.size+1+1,1,none⟩ (.int .i64 room2)).setCell ⟨w.heap.size+1+1,2,none⟩ (.int .i64 fuse2)).setCell ⟨w.heap.size+1+1,3,none⟩ (.bool off2)).setCell ⟨w.heap.size+1+1,4,none⟩ (.int .i64 frm)).setCell ⟨w.heap.size+1+1,5,none⟩ (.int .i64 seg1)).setCell ⟨w.heap.size+1+1,6,none⟩ (.int .i64 run)).setCell ⟨w.heap.size+1+1,7,none⟩ (.slice B2 s2.data.length bc2)).setCell ⟨w.heap.size+1+1,8,none⟩ (.slice C2 s2.toks.length cc2)).setCell ⟨w.heap.size+1+1,9,none⟩ (.bool false))):=Lib.hid (by rw [HV.out];exact V.out.finE V.out.kb.is a b 0)
  have R:Hid (Bx ((((((((((w4.setCell ⟨w.heap.size+1+1,0,none⟩ (.slice A5 n5 c5)).setCell ⟨w.heap.size+1+1,1,none⟩ (.int .i64 room2)).setCell ⟨w.heap.size+1+1,2,none⟩ (.int .i64 fuse2)).setCell ⟨w.heap.size+1+1,3,none⟩ (.bool off2)).setCell ⟨w.heap.size+1+1,4,none⟩ (.int .i64 frm)).setCell ⟨w.heap.size+1+1,5,none⟩ (.int .i64 seg1)).setCell ⟨w.heap.size+1+1,6,none⟩ (.int .i64 run)).setCell ⟨w.heap.size+1+1,7,none⟩ (.slice B2 s2.data.length bc2)).setCell ⟨w.heap.size+1+1,8,none⟩ (.slice C2 s2.toks.length cc2)).setCell ⟨w.heap.size+1+1,9,none⟩ (.bool false)) (w.heap.size+1+1) (kL ⟨A5,n5,c5,B2,s2.data.length,bc2,C2,s2.toks.length,cc2⟩ ⟨⟨l2,room2,fuse2,off2⟩,frm,seg1,run,s2,false⟩)):=Lib.hid (V.out.boxR ⟨A5,n5,c5,B2,s2.data.length,bc2,C2,s2.toks.length,cc2⟩ ⟨⟨l2,room2,fuse2,off2⟩,frm,seg1,run,s2,false⟩)
  have U:Hid (Bx ((((((((((w4.setCell ⟨w.heap.size+1+1,0,none⟩ (.slice A5 n5 c5)).setCell ⟨w.heap.size+1+1,1,none⟩ (.int .i64 room2)).setCell ⟨w.heap.size+1+1,2,none⟩ (.int .i64 fuse2)).setCell ⟨w.heap.size+1+1,3,none⟩ (.bool off2)).setCell ⟨w.heap.size+1+1,4,none⟩ (.int .i64 frm)).setCell ⟨w.heap.size+1+1,5,none⟩ (.int .i64 seg1)).setCell ⟨w.heap.size+1+1,6,none⟩ (.int .i64 run)).setCell ⟨w.heap.size+1+1,7,none⟩ (.slice B2 s2.data.length bc2)).setCell ⟨w.heap.size+1+1,8,none⟩ (.slice C2 s2.toks.length cc2)).setCell ⟨w.heap.size+1+1,9,none⟩ (.bool false)) w.heap.size (kL ⟨A5,n5,c5,B2,s2.data.length,bc2,C2,s2.toks.length,cc2⟩ ⟨⟨l2,room2,fuse2,off2⟩,frm,seg1,run,s2,false⟩)):=Lib.hid (V.out.kb.box.far_stk (by have:=V.out.lt;omega) (us10 ⟨A5,n5,c5,B2,s2.data.length,bc2,C2,s2.toks.length,cc2⟩ ⟨⟨l2,room2,fuse2,off2⟩,frm,seg1,run,s2,false⟩))
  go_wp2_with fail
  refine hK.out _ _ ?Szz28 (fun hHeld=>?_)
  case Szz28 =>
   exact V.out.kb.box
  clear hK K
  try simp only [Act.put,sA,sB,sC]
  refine oneH 3 (fun K hK=>?_)
  obtain ⟨g0,g1,g2,g3,g4,g5,g6,g7,g8,g9⟩:=kfree V.out.res
  obtain ⟨i0,i1,i2,i3,i4,i5,i6,i7,i8,i9⟩:=kget V.out.res
  go_simp
  refine hK.out _ _ ?Szz27 (fun hHeld=>?_)
  case Szz27 =>
   exact U.out
  clear hK K
  try simp only [Act.put,sA,sB,sC]
  refine tadH 4 ?_
  refine wpAnyH_done (by kernel_rfl) ?_ _
  clear V Y q4 U
  go_wp2
  (try rw [Exit.noGoto_ret])
  obtain ⟨r0,r1,r2,r3,r4,r5,r6,r7,r8,r9⟩:=kget R.out
  refine bodyPost_ret (v:=.tuple #[kvV ⟨A5,n5,c5,B2,s2.data.length,bc2,C2,s2.toks.length,cc2⟩ ⟨⟨l2,room2,fuse2,off2⟩,frm,seg1,run,s2,false⟩,.nilIface]) (by simp [results,Tryz.results51,go_sem,r0,r1,r2,r3,r4,r5,r6,r7,r8,r9]) rfl ?_
  rw [HR.out]
  exact F.out
end
section
open Go.RowKit Dkm Prm Km Wm
theorem Kr.dlen {w:World} {p:Kp} {x:Ks} (h:Kr w p x):x.s.data.length=p.bn:=h.data.len
theorem Kr.tlen {w:World} {p:Kp} {x:Ks} (h:Kr w p x):x.s.toks.length=p.cn:=h.toks.len
theorem recB_size (b:Bm.Bt):(recB b).size≤4000:=by
 unfold recB Bm.bytesM
 by_cases h:Bm.may b=true
 · rw [if_pos h]
   have:=Bm.bytes_len h
   show (Bm.bytes b).toArray.size≤4000
   simpa using this
 · rw [if_neg h];show (0:Nat)≤4000;omega
theorem commit_low (p:Kp) (x:Ks) (k:Int) (tok:ByteArray) (D:Option Addr) (dn dc:Nat) (ws:List Wr) (w:World) (a b:Addr) (hT:Kt w a b) (hk:Kr w p x) (hB:Bnd 2305843009213693952 x.d) (hD:Lst writeK w D dn ws) (hdn:dn≤maxLen)
    (hb1:(x.s.data.length+24)*32≤140737488355328) (hb2:(x.s.toks.length+1)*32≤140737488355328) :
    Calls Tryz.prog 51 #[kvV p x,batV k tok D dn dc] w (RetE w a b (comL x ⟨k,tok,ws⟩)):=by
  have KW:Hid (∀ (e:Int) W,Q w W→Calls Tryz.prog 74 #[.int .i64 e] W fun ev w'=>ev=.returned (errV a b e)∧Q W w'):=Lib.hid (fun e W q=>(kwrong_any e a b W (hT.q q).sen).mono fun ev w' h=>⟨h.1,by rw [h.2];exact Q.refl _⟩)
  have hl1:=hk.dlen
  have hl2:=hk.tlen
  obtain ⟨A,n,c,B,bn,bc,C,cn,cc⟩:=p
  obtain ⟨⟨l,room,fuse,off⟩,frm,seg,run,s,down⟩:=x
  simp only at hl1 hl2 hb1 hb2
  cases down with
  | true=>exact commit_down k tok ws w a b (Lib.hid hk) KW _ (Lib.hid (comL_down _ rfl))
  | false =>
    have KD:=fun W (q:Q w W)=>bdo_any k tok B C D bn bc cn cc dn dc s.data s.toks ws W (hk.data.q q) (hk.toks.q q) (hD.q q) hdn (by rw [←hl1];exact hb1) (by rw [←hl2];exact hb2)
    have hlen:=Bm.doo_len s ⟨k,tok,ws⟩
    cases hdo:Bm.doo s ⟨k,tok,ws⟩ with
    | mk s2 er =>
      have KD2:Hid (∀ W,Q w W→Calls Tryz.prog 93 #[staV B bn bc C cn cc,batV k tok D dn dc] W (RetS W (s2,er))):=Lib.hid (fun W q=>by
       have h:=KD W q
       rw [show (⟨s.data,s.toks⟩:Bm.Sta)=s from rfl,hdo] at h
       exact h)
      rw [hdo] at hlen
      have h1:s2.data.length*32≤140737488355328:=by have:=hlen.1;simp only at this;omega
      have h2:s2.toks.length*32≤140737488355328:=by have:=hlen.2;simp only at this;omega
      by_cases h0:er=0
      · subst h0
        have KB:Hid (∀ W,Q w W→Calls Tryz.prog 94 #[batV k tok D dn dc] W fun e w'=>e=.returned (.tuple #[.string (recB ⟨k,tok,ws⟩),.int .i64 (Bm.bytesM ⟨k,tok,ws⟩).2])∧Q W w'):=Lib.hid (fun W q=>bbytes_any k tok D dn dc ws W (hD.q q) hdn)
        have KP:=fun W (hT:Tab W) (hd:Dsk W A n c l)=>put_any seg (recB ⟨k,tok,ws⟩) A n c ⟨l,room,fuse,off⟩ W hT hd hB (Nat.le_trans (recB_size _) (by unfold maxLen;omega))
        have hB1:=hB.putM (by omega) seg (recB ⟨k,tok,ws⟩)
        cases hp:putM ⟨l,room,fuse,off⟩ seg (recB ⟨k,tok,ws⟩) with
        | mk d1 r1 =>
          obtain ⟨seg1,e1⟩:=r1
          obtain ⟨l1,room1,fuse1,off1⟩:=d1
          simp only [hp] at KP hB1
          by_cases he:e1=0
          · subst he
            have KS:=fun W A n c (hT:Tab W) (hd:Dsk W A n c l1)=>wsync_any seg1 A n c ⟨l1,room1,fuse1,off1⟩ W hT hd (fun f hf=>Nat.le_trans (hB1.sum f hf) (by unfold maxLen;omega))
            cases hs:syncM ⟨l1,room1,fuse1,off1⟩ seg1 with
            | mk d2 e2 =>
              obtain ⟨l2,room2,fuse2,off2⟩:=d2
              simp only [hs] at KS
              by_cases h5:e2=0
              · subst h5
                exact commit_ok k tok ws w a b s2 _ _ l1 room1 fuse1 off1 seg1 l2 room2 fuse2 off2 0 (Lib.hid hT) (Lib.hid hk) KW KD2 h1 h2 KB (Lib.hid KP) (Lib.hid KS) _ (Lib.hid (comL_ok rfl hdo hp hs))
              · exact commit_syn k tok ws w a b s2 _ _ l1 room1 fuse1 off1 seg1 l2 room2 fuse2 off2 e2 (Lib.hid hT) (Lib.hid hk) KW KD2 h1 h2 KB (Lib.hid KP) (Lib.hid KS) h5 _ (Lib.hid (comL_syn rfl hdo hp hs h5))
          · exact commit_put k tok ws w a b s2 _ _ l1 room1 fuse1 off1 seg1 e1 (Lib.hid hT) (Lib.hid hk) KW KD2 h1 h2 KB (Lib.hid KP) he _ (Lib.hid (comL_put rfl hdo hp he))
      · exact commit_bad k tok ws w a b s2 er (Lib.hid hk) KW KD2 h1 h2 h0 _ (Lib.hid (comL_bad rfl hdo h0))
set_option maxHeartbeats 8000000 in
theorem Commit_core {A:Option Addr} {n c:Nat} {B:Option Addr} {bn bc:Nat} {C:Option Addr} {cn cc:Nat} {D:Option Addr} {dn dc:Nat} {l:List Fil} {room fuse:Int} {off:Bool} {frm seg run:Int} {s:Bm.Sta} {down:Bool} (k:Int) (tok:ByteArray) (w:World) (a b:Addr) (y:Ks) (er:Int)
    (l2:List Fil) (room2 fuse2:Int) (off2:Bool) (frm2 seg2 run2:Int) (s2:Bm.Sta) (down2:Bool) (ve:Value)
    (HK:Hid (Kr w ⟨A,n,c,B,bn,bc,C,cn,cc⟩ ⟨⟨l,room,fuse,off⟩,frm,seg,run,s,down⟩))
    (KO:Hid (∀ W,Q w W→Calls Tryz.prog 52 #[kvV ⟨A,n,c,B,bn,bc,C,cn,cc⟩ ⟨⟨l,room,fuse,off⟩,frm,seg,run,s,down⟩] W (RetK1 W ⟨⟨l,room,fuse,off⟩,frm,seg,run,s,down⟩)))
    (KL:Hid (∀ p W,Kr W p ⟨⟨l,room,fuse,off⟩,frm,seg,run,s,down⟩→Q w W→Calls Tryz.prog 51 #[kvV p ⟨⟨l,room,fuse,off⟩,frm,seg,run,s,down⟩,batV k tok D dn dc] W fun e w'=>∃ p',e=.returned (.tuple #[kvV p' y,ve])∧Kr w' p' y∧Q W w'))
    (KA:Hid (∀ p W,Kr W p y→Q w W→Calls Tryz.prog 50 #[kvV p y,ve] W fun e w'=>∃ p',e=.returned (.tuple #[kvV p' ⟨⟨l2,room2,fuse2,off2⟩,frm2,seg2,run2,s2,down2⟩,.int .i64 er])∧Kr w' p' ⟨⟨l2,room2,fuse2,off2⟩,frm2,seg2,run2,s2,down2⟩∧Q W w')) :
    Calls Tryz.prog 19 #[kvV ⟨A,n,c,B,bn,bc,C,cn,cc⟩ ⟨⟨l,room,fuse,off⟩,frm,seg,run,s,down⟩,batV k tok D dn dc] w (RetK w ⟨⟨l2,room2,fuse2,off2⟩,frm2,seg2,run2,s2,down2⟩ [.int .i64 er]):=by
  have Z:Hid (Kz w ⟨A,n,c,B,bn,bc,C,cn,cc⟩ ⟨⟨l,room,fuse,off⟩,frm,seg,run,s,down⟩ k tok D dn dc (((w.alloc (.cells #[.slice A n c,.int .i64 room,.int .i64 fuse,.bool off,.int .i64 frm,.int .i64 seg,.int .i64 run,.slice B bn bc,.slice C cn cc,.bool down] 32)).alloc (.cells #[.int .i64 k,.string tok,.slice D dn dc] 48)).alloc (.cells #[.slice none 0 0,.int .i64 0,.int .i64 0,.bool false,.int .i64 0,.int .i64 0,.int .i64 0,.slice none 0 0,.slice none 0 0,.bool false] 32))):=Lib.hid (Kz.new HK.out k tok D dn dc)
  clear HK
  go_enter Tryz.func19,Tryz.ntmps19
  go_upto_region 1 with (fail)
  generalize (((w.alloc (.cells #[.slice A n c,.int .i64 room,.int .i64 fuse,.bool off,.int .i64 frm,.int .i64 seg,.int .i64 run,.slice B bn bc,.slice C cn cc,.bool down] 32)).alloc (.cells #[.int .i64 k,.string tok,.slice D dn dc] 48)).alloc (.cells #[.slice none 0 0,.int .i64 0,.int .i64 0,.bool false,.int .i64 0,.int .i64 0,.int .i64 0,.slice none 0 0,.slice none 0 0,.bool false] 32))=W at Z ⊢
  refine wp_region_held_drew (S:=fun w'=>Bx w' w.heap.size (kL ⟨A,n,c,B,bn,bc,C,cn,cc⟩ ⟨⟨l,room,fuse,off⟩,frm,seg,run,s,down⟩)∧Bx w' (w.heap.size+1) [.int .i64 k,.string tok,.slice D dn dc]) (by kernel_rfl) ?szz0 (fun hHeld=>?rzz0)
  case szz0 =>
   exact ⟨Z.out.kc.kb.box.drew,Z.out.bb.drew⟩
  refine takeH 0 ?v1 ?y1 ?_
  case y1=>intro w hSw;obtain ⟨s0,s1,s2,s3,s4,s5,s6,s7,s8,s9⟩:=kget hSw.1;obtain ⟨b0,b1,b2⟩:=hSw.2.get3.1;go_simp;try with_reducible rfl
  refine takeH 2 ?v2 ?y2 ?_
  case y2=>intro w hSw;obtain ⟨s0,s1,s2,s3,s4,s5,s6,s7,s8,s9⟩:=kget hSw.1;obtain ⟨b0,b1,b2⟩:=hSw.2.get3.1;go_simp;try with_reducible rfl
  refine oneH 1 (fun K hK=>?_)
  go_simp
  refine (KO.out _ (Z.out.kc.q.trans (Q.refl _).drew)).mono ?_
  rintro e w1 ⟨p1,rfl,k1,q1⟩
  have V1:=Lib.hid (Z.out.step ((Q.refl _).drew.trans q1))
  have K1:=Lib.hid k1
  clear k1 q1
  go_wp2_with fail
  refine hK.out _ _ ?Szz11 (fun hHeld=>?_)
  case Szz11 =>
   exact ⟨V1.out.kc.kb.box,V1.out.bb⟩
  clear hK K
  try simp only [Act.put,sA,sB,sC]
  refine oneH 3 (fun K hK=>?_)
  go_simp
  refine (KL.out p1 _ K1.out V1.out.kc.q).mono ?_
  rintro e w2 ⟨p2,rfl,k2,q2⟩
  have V2:=Lib.hid (V1.out.step q2)
  have K2:=Lib.hid k2
  clear k2 q2
  go_wp2_with fail
  refine hK.out _ _ ?Szz10 (fun hHeld=>?_)
  case Szz10 =>
   exact ⟨V2.out.kc.kb.box,V2.out.bb⟩
  clear hK K
  try simp only [Act.put,sA,sB,sC]
  refine tadH 4 ?_
  refine tadH 5 ?_
  refine oneH 6 (fun K hK=>?_)
  go_simp
  refine (KA.out p2 _ K2.out V2.out.kc.q).mono ?_
  rintro e w4 ⟨p3,rfl,k3,q3⟩
  have V3:=Lib.hid (V2.out.step q3)
  have K3:=Lib.hid k3
  clear k3 q3
  obtain ⟨A2,n2,c2,B2,bn2,bc2,C2,cn2,cc2⟩:=p3
  have F:Hid (RetK w ⟨⟨l2,room2,fuse2,off2⟩,frm2,seg2,run2,s2,down2⟩ [.int .i64 er] (.returned (.tuple #[kvV ⟨A2,n2,c2,B2,bn2,bc2,C2,cn2,cc2⟩ ⟨⟨l2,room2,fuse2,off2⟩,frm2,seg2,run2,s2,down2⟩,.int .i64 er])) ((((((((((w4.setCell ⟨w.heap.size+1+1,0,none⟩ (.slice A2 n2 c2)).setCell ⟨w.heap.size+1+1,1,none⟩ (.int .i64 room2)).setCell ⟨w.heap.size+1+1,2,none⟩ (.int .i64 fuse2)).setCell ⟨w.heap.size+1+1,3,none⟩ (.bool off2)).setCell ⟨w.heap.size+1+1,4,none⟩ (.int .i64 frm2)).setCell ⟨w.heap.size+1+1,5,none⟩ (.int .i64 seg2)).setCell ⟨w.heap.size+1+1,6,none⟩ (.int .i64 run2)).setCell ⟨w.heap.size+1+1,7,none⟩ (.slice B2 bn2 bc2)).setCell ⟨w.heap.size+1+1,8,none⟩ (.slice C2 cn2 cc2)).setCell ⟨w.heap.size+1+1,9,none⟩ (.bool down2))):=Lib.hid (V3.out.kc.fin K3.out [.int .i64 er])
  have R:Hid (Bx ((((((((((w4.setCell ⟨w.heap.size+1+1,0,none⟩ (.slice A2 n2 c2)).setCell ⟨w.heap.size+1+1,1,none⟩ (.int .i64 room2)).setCell ⟨w.heap.size+1+1,2,none⟩ (.int .i64 fuse2)).setCell ⟨w.heap.size+1+1,3,none⟩ (.bool off2)).setCell ⟨w.heap.size+1+1,4,none⟩ (.int .i64 frm2)).setCell ⟨w.heap.size+1+1,5,none⟩ (.int .i64 seg2)).setCell ⟨w.heap.size+1+1,6,none⟩ (.int .i64 run2)).setCell ⟨w.heap.size+1+1,7,none⟩ (.slice B2 bn2 bc2)).setCell ⟨w.heap.size+1+1,8,none⟩ (.slice C2 cn2 cc2)).setCell ⟨w.heap.size+1+1,9,none⟩ (.bool down2)) (w.heap.size+1+1) (kL ⟨A2,n2,c2,B2,bn2,bc2,C2,cn2,cc2⟩ ⟨⟨l2,room2,fuse2,off2⟩,frm2,seg2,run2,s2,down2⟩)):=Lib.hid (V3.out.kc.boxR ⟨A2,n2,c2,B2,bn2,bc2,C2,cn2,cc2⟩ ⟨⟨l2,room2,fuse2,off2⟩,frm2,seg2,run2,s2,down2⟩)
  have U:Hid (Bx ((((((((((w4.setCell ⟨w.heap.size+1+1,0,none⟩ (.slice A2 n2 c2)).setCell ⟨w.heap.size+1+1,1,none⟩ (.int .i64 room2)).setCell ⟨w.heap.size+1+1,2,none⟩ (.int .i64 fuse2)).setCell ⟨w.heap.size+1+1,3,none⟩ (.bool off2)).setCell ⟨w.heap.size+1+1,4,none⟩ (.int .i64 frm2)).setCell ⟨w.heap.size+1+1,5,none⟩ (.int .i64 seg2)).setCell ⟨w.heap.size+1+1,6,none⟩ (.int .i64 run2)).setCell ⟨w.heap.size+1+1,7,none⟩ (.slice B2 bn2 bc2)).setCell ⟨w.heap.size+1+1,8,none⟩ (.slice C2 cn2 cc2)).setCell ⟨w.heap.size+1+1,9,none⟩ (.bool down2)) w.heap.size (kL ⟨A,n,c,B,bn,bc,C,cn,cc⟩ ⟨⟨l,room,fuse,off⟩,frm,seg,run,s,down⟩)∧Bx ((((((((((w4.setCell ⟨w.heap.size+1+1,0,none⟩ (.slice A2 n2 c2)).setCell ⟨w.heap.size+1+1,1,none⟩ (.int .i64 room2)).setCell ⟨w.heap.size+1+1,2,none⟩ (.int .i64 fuse2)).setCell ⟨w.heap.size+1+1,3,none⟩ (.bool off2)).setCell ⟨w.heap.size+1+1,4,none⟩ (.int .i64 frm2)).setCell ⟨w.heap.size+1+1,5,none⟩ (.int .i64 seg2)).setCell ⟨w.heap.size+1+1,6,none⟩ (.int .i64 run2)).setCell ⟨w.heap.size+1+1,7,none⟩ (.slice B2 bn2 bc2)).setCell ⟨w.heap.size+1+1,8,none⟩ (.slice C2 cn2 cc2)).setCell ⟨w.heap.size+1+1,9,none⟩ (.bool down2)) (w.heap.size+1) [.int .i64 k,.string tok,.slice D dn dc]):=Lib.hid ⟨V3.out.kc.kb.box.far_stk (by have:=V3.out.kc.lt;omega) (us10 ⟨A2,n2,c2,B2,bn2,bc2,C2,cn2,cc2⟩ ⟨⟨l2,room2,fuse2,off2⟩,frm2,seg2,run2,s2,down2⟩),V3.out.bb.far_stk (by omega) (us10 ⟨A2,n2,c2,B2,bn2,bc2,C2,cn2,cc2⟩ ⟨⟨l2,room2,fuse2,off2⟩,frm2,seg2,run2,s2,down2⟩)⟩
  go_wp2_with fail
  refine hK.out _ _ ?Szz7 (fun hHeld=>?_)
  case Szz7 =>
   exact ⟨V3.out.kc.kb.box,V3.out.bb⟩
  clear hK K
  try simp only [Act.put,sA,sB,sC]
  refine tadH 7 ?_
  refine tadH 8 ?_
  refine oneH 9 (fun K hK=>?_)
  obtain ⟨g0,g1,g2,g3,g4,g5,g6,g7,g8,g9⟩:=kfree V3.out.kc.res
  obtain ⟨i0,i1,i2,i3,i4,i5,i6,i7,i8,i9⟩:=kget V3.out.kc.res
  go_simp
  refine hK.out _ _ ?Szz4 (fun hHeld=>?_)
  case Szz4 =>
   exact U.out
  clear hK K
  try simp only [Act.put,sA,sB,sC]
  refine tadH 10 ?_
  refine wpAnyH_done (by kernel_rfl) ?_ _
  clear V1 V2 V3 K1 K2 K3 Z U
  go_wp2
  (try rw [Exit.noGoto_ret])
  obtain ⟨r0,r1,r2,r3,r4,r5,r6,r7,r8,r9⟩:=kget R.out
  refine bodyPost_ret (v:=.tuple #[kvV ⟨A2,n2,c2,B2,bn2,bc2,C2,cn2,cc2⟩ ⟨⟨l2,room2,fuse2,off2⟩,frm2,seg2,run2,s2,down2⟩,.int .i64 er]) (by simp [results,Tryz.results19,go_sem,r0,r1,r2,r3,r4,r5,r6,r7,r8,r9]) rfl ?_
  exact F.out
theorem Commit_any (p:Kp) (x:Ks) (k:Int) (tok:ByteArray) (D:Option Addr) (dn dc:Nat) (ws:List Wr) (w:World) (a b:Addr) (hT:Kt w a b) (hk:Kr w p x) (hB:Bnd 2305843009213693952 x.d) (hD:Lst writeK w D dn ws) (hdn:dn≤maxLen)
    (hb1:(x.s.data.length+24)*32≤140737488355328) (hb2:(x.s.toks.length+1)*32≤140737488355328) :
    Calls Tryz.prog 19 #[kvV p x,batV k tok D dn dc] w (RetK w (comM x ⟨k,tok,ws⟩).1 [.int .i64 (comM x ⟨k,tok,ws⟩).2]):=by
  have KO:=fun W (q:Q w W)=>kown_any p x W (hk.q q)
  have KL:=fun p' W (h:Kr W p' x) (q:Q w W)=>commit_low p' x k tok D dn dc ws W a b (hT.q q) h hB (hD.q q) hdn hb1 hb2
  have KA:=fun p' W (h:Kr W p' (comL x ⟨k,tok,ws⟩).1) (q:Q w W)=>answer_any p' (comL x ⟨k,tok,ws⟩).1 (comL x ⟨k,tok,ws⟩).2 a b W h (hT.q q)
  rw [comL_comM]
  generalize comL x ⟨k,tok,ws⟩=y at KL KA ⊢
  obtain ⟨y,er⟩:=y
  simp only at KL KA ⊢
  generalize Ks.gon y er=z at KA ⊢
  obtain ⟨A,n,c,B,bn,bc,C,cn,cc⟩:=p
  obtain ⟨⟨l,room,fuse,off⟩,frm,seg,run,s,down⟩:=x
  obtain ⟨⟨l2,room2,fuse2,off2⟩,frm2,seg2,run2,s2,down2⟩:=z
  exact Commit_core k tok w a b y er l2 room2 fuse2 off2 frm2 seg2 run2 s2 down2 (errV a b er) (Lib.hid hk) (Lib.hid KO) (Lib.hid KL) (Lib.hid KA)
end
section
open Go.RowKit Prm
def exWr:Wr:=⟨⟨#[97]⟩,⟨#[49]⟩,false⟩
theorem bex_may:Bm.may ⟨1,⟨#[116]⟩,[exWr]⟩=true:=by decide
theorem bex_bytes:Bm.bytesM ⟨1,⟨#[116]⟩,[exWr]⟩=([49,59,49,59,116,49,59,48,59,49,59,97,49,59,49],0):=by
 have e1:Dm.num 1=[49,59]:=by unfold Dm.num;rw [show Dm.dg 1=[49] by rw [Dm.dg];rfl];rfl
 have e0:Dm.num 0=[48,59]:=by unfold Dm.num;rw [show Dm.dg 0=[48] by rw [Dm.dg];rfl];rfl
 unfold Bm.bytesM
 rw [bex_may]
 show (Dm.num 1++(Dm.num 1++[116])++Dm.num 1++(Dm.num 0++(Dm.num 1++[97])++(Dm.num 1++[49])++[]),(0:Int))=_
 rw [e1,e0];rfl
end
section
open Go.RowKit Dkm Prm Km Wm Du Wl
def exB:Bm.Bt:=⟨1,⟨#[116]⟩,[exWr]⟩
def exS:Bm.Sta:=⟨[⟨⟨#[97]⟩,⟨#[49]⟩⟩],[⟨⟨#[116]⟩,⟨#[99]⟩⟩]⟩
theorem ex_doo:Bm.doo ⟨[],[]⟩ exB=(exS,0):=by
 unfold Bm.doo
 rw [if_neg (by unfold exB;rw [bex_may];simp),if_neg (by decide)]
 rfl
theorem ex_rec:recB exB=⟨#[49,59,49,59,116,49,59,48,59,49,59,97,49,59,49]⟩:=by unfold recB exB;rw [bex_bytes]
theorem nam_one:namB 1=⟨#[119,49]⟩:=by
 unfold namB nam
 rw [if_pos (by decide),show (1:Int).toNat=1 from rfl,show Dm.dg 1=[49] by rw [Dm.dg];rfl]
theorem putM_new (room:Int) (rec:ByteArray) (h1:rec.size≤2048) (h2:(sealB rec).size≤room):putM ⟨[],room,-1,false⟩ 1 rec=(⟨[⟨namB 1,⟨#[]⟩,sealB rec⟩],room - (sealB rec).size,-1,false⟩,1,0):=by
 have h3:(sealB rec).size≤65536:=by
  rw [sealB_size]
  have:=sld_length rec.data.toList (by rw [Rn.size_data];omega)
  rw [Rn.size_data] at this
  omega
 have hn:nmOk (namB 1)=true:=by rw [nam_one];decide
 have hr:(redd (namB 1) ([]:List Fil)).1.size<256:=by rw [redd_none (by simp)];decide
 have ho:opn (namB 1) ([]:List Fil)=(⟨namB 1,⟨#[]⟩,⟨#[]⟩⟩,0):=opn_none (by simp)
 have hsh:Dkm.short (-1) (sealB rec)=false:=by unfold Dkm.short;simp
 have hcut:Dkm.cut (-1) (sealB rec)=sealB rec:=by unfold Dkm.cut;rw [hsh];rfl
 unfold putM
 rw [if_neg (by decide),if_neg (by omega)]
 unfold putB
 rw [if_pos hr]
 unfold putA
 have ha:appd ⟨[],room,-1,false⟩ (namB 1) (sealB rec)=(⟨[⟨namB 1,⟨#[]⟩,sealB rec⟩],room - (sealB rec).size,-1,false⟩,0):=by
  unfold appd
  simp only [hn,ho,hcut,hsh]
  rw [if_neg (by simp),if_neg (by simp),if_neg (by simp;omega),if_neg (by show ¬ 65536<0+0+(sealB rec).size;omega)]
  simp only [Dkm.put,List.length_nil,if_true,List.nil_append]
  rw [show (⟨#[]⟩:ByteArray)++sealB rec=sealB rec from ByteArray.ext (by simp [ByteArray.data_append])]
  simp
 rw [ha]
theorem syncM_new (room:Int) (s:ByteArray):(syncM ⟨[⟨namB 1,⟨#[]⟩,s⟩],room,-1,false⟩ 1).2=0:=by
 have hh:(hit (namB 1) [⟨namB 1,⟨#[]⟩,s⟩]).2=true:=by
  have:=hit_end (nm:=namB 1) (l:=[]) (f:=⟨namB 1,⟨#[]⟩,s⟩) rfl (by simp)
  rw [show ([]++[⟨namB 1,⟨#[]⟩,s⟩]:List Fil)=[⟨namB 1,⟨#[]⟩,s⟩] from rfl] at this
  rw [this]
 unfold syncM
 rw [if_pos hh]
 exact syn_on ⟨rfl,by show (-1:Int)<0;omega⟩ _ (fun i j hi hj hne=>by simp at hi hj;omega) hh
def exX:Ks:=⟨⟨[],1000,-1,false⟩,1,1,0,⟨[],[]⟩,false⟩
theorem ex_kn:Kn 0 exX:=by have:=open_kn 1000;rw [open_new] at this;exact this
theorem ex_com:(comM exX exB).2=0:=by
 have hp:=putM_new 1000 (recB exB) (by rw [ex_rec];decide) (by
  rw [sealB_size]
  have:=sld_length (recB exB).data.toList (by rw [ex_rec];decide)
  rw [show (recB exB).data.toList.length=15 by rw [ex_rec];rfl] at this
  omega)
 have hs:=syncM_new (1000 - (sealB (recB exB)).size) (sealB (recB exB))
 unfold comM
 rw [if_neg (by decide),if_neg (by show ¬ (Bm.doo ⟨[],[]⟩ exB).2≠0;rw [ex_doo];simp)]
 show (comA exX _ (putM ⟨[],1000,-1,false⟩ 1 (recB exB))).2=0
 rw [hp]
 unfold comA
 rw [if_neg (by simp)]
 unfold comB
 simp only
 rw [if_neg (by rw [hs];simp)]
theorem ex_sta:(comM exX exB).1.s=exS:=by rw [(comM_ok ex_com).2];show (Bm.doo ⟨[],[]⟩ exB).1=exS;rw [ex_doo]
theorem ex_bnd:Bnd 2097152 exX.d:=⟨by simp [exX],by simp [exX],⟨by simp [exX],by simp [exX]⟩,⟨by simp [exX],by simp [exX]⟩⟩
theorem ex_rec0:recM ⟨[],1000,-1,false⟩ 1=(⟨[],1000,-1,false⟩,[],1,0):=by
 unfold recM
 rw [if_neg (by decide)]
 show recF (999999+1) _ _ _ _ _=_
 unfold recF
 rw [if_neg (by decide),if_pos (by rw [redd_none (by simp)];decide)]
theorem ex_all:∃ x1 y:Ks,comM exX exB=(x1,0)∧x1.s=exS∧Bnd 2097152 x1.d∧openM (crs x1.d [])=(y,0)∧y.s=exS∧(recM (crs x1.d []) 1).2.1.length≤1∧(redd mB (crs x1.d []).fs).2≠0:=by
 obtain ⟨c1,_,c3,c4,c5⟩:=(ex_kn.com exB).1.crash []
 refine ⟨(comM exX exB).1,(crsM (comM exX exB).1 []).1,?_,ex_sta,Bnd.com ex_bnd (by omega) exB,?_,c3.trans ex_sta,c4,c5⟩
 · rw [←ex_com]
 · rw [←c1];rfl
set_option maxHeartbeats 4000000 in
theorem kshown_any (a b:Addr) (w:World) (hT:Kt w a b):Calls Tryz.prog 8 #[] w fun e w'=>e=.returned (.bool true)∧Q w w':=by
 obtain ⟨x1,y,h1,h2,h3,h4,h5,h6,h7⟩:=ex_all
 have HT:=Lib.hid hT
 have KO:=Lib.hid (fun (W:World) (q:Q w W) (hd:Dsk W none 0 0 ([]:List Fil))=>by
  have:=kOpen_no none 0 0 ⟨[],1000,-1,false⟩ W a b (hT.q q) hd ex_bnd (by rw [redd_none (by simp)];decide) (by rw [ex_rec0];decide)
  rw [open_new] at this
  exact this)
 have KC:=Lib.hid (fun p (W:World) (q:Q w W) (hk:Kr W p exX) (D:Option Addr) (hD:Lst writeK W D 1 [exWr])=>by
  have:=Commit_any p exX 1 ⟨#[116]⟩ D 1 1 [exWr] W a b (hT.q q) hk (ex_bnd.more (by omega)) hD (by unfold maxLen;omega) (by simp [exX]) (by simp [exX])
  rw [show (⟨1,⟨#[116]⟩,[exWr]⟩:Bm.Bt)=exB from rfl,h1] at this
  exact this)
 have KR:=Lib.hid (fun p (W:World) (q:Q w W) (hk:Kr W p x1)=>kCrash_of p x1 none 0 0 [] (y,0) W hk (Ints.none_ _ _) (by unfold maxLen;omega) (mx21 h3) (Lib.hid fun A n c W2 q2 hd=>by
  have:=kOpen_no A n c (crs x1.d []) W2 a b ((hT.q q).q q2) hd (Bnd.crsK h3 []) h7 (by omega)
  rw [h4] at this
  exact this))
 obtain ⟨⟨l2,room2,fuse2,off2⟩,frm2,seg2,run2,s2,down2⟩:=x1
 obtain ⟨⟨l3,room3,fuse3,off3⟩,frm3,seg3,run3,s3,down3⟩:=y
 simp only at KC KR h2 h5
 subst h2 h5
 clear h1 h3 h4 h6 h7 hT
 go_enter Tryz.func8,Tryz.ntmps8
 go_wp2_with fail
 refine (ref_new_any 1000 _ (by omega)).mono ?_
 rintro e w1 ⟨rfl,q1⟩
 have QA:=Lib.hid (q1.alloc (.cells #[.slice none 0 0,.int .i64 1000,.int .i64 (-1),.bool false] 24))
 clear q1
 go_wp2_with fail
 refine (KO.out _ QA.out (kr0 _).dsk).mono ?_
 rintro e w2 ⟨p1,rfl,k2,q2⟩
 obtain ⟨A1,n1,c1,B1,bn1,bc1,C1,cn1,cc1⟩:=p1
 have QB:=Lib.hid (QA.out.trans q2)
 have K0:=Lib.hid k2
 clear q2 k2 QA
 have X:Hid (Kb (w2.alloc (.cells #[.slice A1 n1 c1,.int .i64 1000,.int .i64 (-1),.bool false,.int .i64 1,.int .i64 1,.int .i64 0,.slice B1 bn1 bc1,.slice C1 cn1 cc1,.bool false] 32)) w2.heap.size ⟨A1,n1,c1,B1,bn1,bc1,C1,cn1,cc1⟩ exX):=Lib.hid (Kb.new K0.out)
 have QC:Hid (Q w (w2.alloc (.cells #[.slice A1 n1 c1,.int .i64 1000,.int .i64 (-1),.bool false,.int .i64 1,.int .i64 1,.int .i64 0,.slice B1 bn1 bc1,.slice C1 cn1 cc1,.bool false] 32))):=Lib.hid (QB.out.alloc _)
 have hz:w.heap.size≤w2.heap.size:=QB.out.size
 clear QB K0
 go_upto_region 3 with (fail)
 generalize w2.alloc (.cells #[.slice A1 n1 c1,.int .i64 1000,.int .i64 (-1),.bool false,.int .i64 1,.int .i64 1,.int .i64 0,.slice B1 bn1 bc1,.slice C1 cn1 cc1,.bool false] 32)=W at X QC ⊢
 generalize w2.heap.size=g at X hz ⊢
 obtain ⟨e0,e1,e2,e3,e4,e5,e6,e7,e8,e9⟩:=kget X.out.box
 go_wp2_with fail
 refine (KC.out _ _ (QC.out.alloc _) (X.out.is.q ((Q.refl _).alloc _)) _ (lit_write W exWr).lst).mono ?_
 rintro e w3 ⟨p2,rfl,k3,q3⟩
 obtain ⟨A2,n2,c2,B2,bn2,bc2,C2,cn2,cc2⟩:=p2
 have Q3:=Lib.hid ((QC.out.alloc (.cells #[.string ⟨#[97]⟩,.string ⟨#[49]⟩,.bool false] 81)).trans q3)
 have B3:=Lib.hid (X.out.box.q (((Q.refl _).alloc (.cells #[.string ⟨#[97]⟩,.string ⟨#[49]⟩,.bool false] 81)).trans q3))
 have U0:=Kb.whole B3.out k3
 have QD0:=Q.stk hz (us10 ⟨A2,n2,c2,B2,bn2,bc2,C2,cn2,cc2⟩ ⟨⟨l2,room2,fuse2,off2⟩,frm2,seg2,run2,exS,down2⟩) Q3.out
 dsimp only [us10,stk] at U0 QD0
 have U:=Lib.hid U0
 have QD:=Lib.hid QD0
 clear U0 QD0
 clear q3 k3 X QC Q3 e0 e1 e2 e3 e4 e5 e6 e7 e8 e9
 obtain ⟨e0,e1,e2,e3,e4,e5,e6,e7,e8,e9⟩:=kget B3.out
 obtain ⟨f0,f1,f2,f3,f4,f5,f6,f7,f8,f9⟩:=kfree B3.out
 clear B3
 go_upto_region 4 with (fail)
 generalize ((((((((((w3.setCell ⟨w2.heap.size,0,none⟩ (.slice A2 n2 c2)).setCell ⟨w2.heap.size,1,none⟩ (.int .i64 room2)).setCell ⟨w2.heap.size,2,none⟩ (.int .i64 fuse2)).setCell ⟨w2.heap.size,3,none⟩ (.bool off2)).setCell ⟨w2.heap.size,4,none⟩ (.int .i64 frm2)).setCell ⟨w2.heap.size,5,none⟩ (.int .i64 seg2)).setCell ⟨w2.heap.size,6,none⟩ (.int .i64 run2)).setCell ⟨w2.heap.size,7,none⟩ (.slice B2 bn2 bc2)).setCell ⟨w2.heap.size,8,none⟩ (.slice C2 cn2 cc2)).setCell ⟨w2.heap.size,9,none⟩ (.bool down2))=W4 at U QD ⊢
 clear e0 e1 e2 e3 e4 e5 e6 e7 e8 e9 f0 f1 f2 f3 f4 f5 f6 f7 f8 f9
 obtain ⟨e0,e1,e2,e3,e4,e5,e6,e7,e8,e9⟩:=kget U.out.box
 go_wp2_with fail
 refine (KR.out _ _ QD.out U.out.is).mono ?_
 rintro e w5 ⟨p3,rfl,k5,q5⟩
 clear e0 e1 e2 e3 e4 e5 e6 e7 e8 e9
 obtain ⟨A3,n3,c3,B3,bn3,bc3,C3,cn3,cc3⟩:=p3
 have hb1:1=bn3:=k5.data.len
 have hc1:1=cn3:=k5.toks.len
 subst hb1 hc1
 obtain ⟨ad,hB,hab,y0,y1⟩:=load_pair (k5.data.lst.q ((Q.refl w5).alloc (.cells #[.slice A3 n3 c3,.int .i64 room3,.int .i64 fuse3,.bool off3,.int .i64 frm3,.int .i64 seg3,.int .i64 run3,.slice B3 1 bc3,.slice C3 1 cc3,.bool down3] 32))) (k:=0) (by show 0<1;omega) (by simp [exS])
 have hB:B3=some ad:=hB
 subst hB
 have Y:Hid (Kb (w5.alloc (.cells #[.slice A3 n3 c3,.int .i64 room3,.int .i64 fuse3,.bool off3,.int .i64 frm3,.int .i64 seg3,.int .i64 run3,.slice (some ad) 1 bc3,.slice C3 1 cc3,.bool down3] 32)) w5.heap.size ⟨A3,n3,c3,some ad,1,bc3,C3,1,cc3⟩ ⟨⟨l3,room3,fuse3,off3⟩,frm3,seg3,run3,exS,down3⟩):=Lib.hid (Kb.new k5)
 have QE:Hid (Q w (w5.alloc (.cells #[.slice A3 n3 c3,.int .i64 room3,.int .i64 fuse3,.bool off3,.int .i64 frm3,.int .i64 seg3,.int .i64 run3,.slice (some ad) 1 bc3,.slice C3 1 cc3,.bool down3] 32))):=Lib.hid ((QD.out.trans q5).alloc _)
 have HY:=Lib.hid y1
 clear q5 k5 U QD y0 y1
 go_upto_region 5 with (fail)
 generalize w5.alloc (.cells #[.slice A3 n3 c3,.int .i64 room3,.int .i64 fuse3,.bool off3,.int .i64 frm3,.int .i64 seg3,.int .i64 run3,.slice (some ad) 1 bc3,.slice C3 1 cc3,.bool down3] 32)=W5 at Y QE HY hab ⊢
 have y1:W5.cell? ⟨ad.block,ad.off+1,none⟩=some (.string ⟨#[49]⟩):=by simpa [exS,Addr.add] using HY.out
 obtain ⟨e0,e1,e2,e3,e4,e5,e6,e7,e8,e9⟩:=kget Y.out.box
 go_wp2
 go_ret
 exact ⟨by first | rfl | simp,by first | exact QE.out | exact QE.out.drew⟩
end
section
open Go.ChangeShapes Go.WideShapes Go.RowKit Dkm
end
section
open Go.ChangeShapes Go.WideShapes Go.RowKit Dkm Prm Km Wm
end
end Go.Proofs.YtajidconlmhjfaaGreatDoor
