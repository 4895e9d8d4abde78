/- For every room, every list of batches, every fuse and every keeps: behind at most 100 commits, a check, whatever comes of it, leaves the state; behind a crash it is the same. No condition. -/
import Derived.Test.YtajidconlmhjfaaGreatDoorC16
import Derived.Test.YtajidconlmhjfaaGreatDoorC4
set_option linter.unusedVariables false
set_option linter.unusedSimpArgs false
set_option maxRecDepth 100000
namespace Go.Proofs.YtajidconlmhjfaaGreatDoor.kvChecks
open Go.ChangeShapes Go.WideShapes Go.ChangeAt Go.RowKit Dkm Prm Km Wm
set_option maxHeartbeats 16000000 in
theorem walk (room:Int) (A:Option Addr) (n c:Nat) (rl:List BRaw) (bl:List Bm.Bt) (fuse:Int) (K:Option Addr) (kn kc:Nat) (ks:List Int) (w:World) (hT:∃ a b,Kt w a b) (hE:Errs w)
    (hroom:room≤9223372036854775807) (hA:In_ rawK w A n c rl) (hbl:bl.length=n) (hst:∀ i,∀ h1:i<rl.length,∀ h2:i<bl.length,Stands w rl[i] bl[i]) (hf:In64 fuse) (hK:Ints w K kn ks) (hkn:kn≤maxLen) :
    Calls Tryz.prog 6 #[.agg #[.int .i64 room,.slice A n c,.int .i64 fuse,.slice K kn kc]] w fun e w'=>e=.returned (.bool true)∧Q w w':=by
  obtain ⟨a,b,hT⟩:=hT
  have HT:=Lib.hid hT
  have HER:=Lib.hid hE
  have HA:=Lib.hid hA
  have HS:=Lib.hid hst
  have HB:=Lib.hid hbl
  have HL:=Lib.hid hA.len
  have HK:=Lib.hid hK
  have HF:=Lib.hid hf
  have HKN:=Lib.hid hkn
  have hn0:n≤9223372036854775807:=hA.max
  have Q0:=Lib.hid ((Q.refl w).alloc (.cells #[.int .i64 room,.slice A n c,.int .i64 fuse,.slice K kn kc] 73))
  clear hT hE hA hst hbl hK hf hkn
  by_cases hr:room<0
  · have KN:=Lib.hid (fun W=>ref_new_neg room W hr)
    have KO:=Lib.hid (fun (W:World) (q:Q w W)=>kOpen_no none 0 0 ⟨[],0,0,false⟩ W a b (HT.out.q q) (kr0 W).dsk ⟨by simp,by simp,⟨by simp,by simp⟩,⟨by simp,by simp⟩⟩ (by rw [redd_none (by simp)];decide) (by rw [rec_new];simp))
    generalize openM ⟨[],0,0,false⟩=y at KO
    obtain ⟨y,er⟩:=y
    obtain ⟨⟨l2,room2,fuse2,off2⟩,frm2,seg2,run2,s2,down2⟩:=y
    clear hr
    go_enter Tryz.func6,Tryz.ntmps6
    go_upto_region 5 with (fail)
    generalize (w.alloc (.cells #[.int .i64 room,.slice A n c,.int .i64 fuse,.slice K kn kc] 73))=W at Q0 ⊢
    go_wp2_with fail
    refine (kshown_any a b _ (HT.out.q Q0.out)).mono ?_
    rintro e w1 ⟨rfl,q1⟩
    go_wp2_with fail
    refine (KN.out _).mono ?_
    rintro e w2 ⟨rfl,q2⟩
    have QA:=Lib.hid (((Q0.out.trans q1).trans q2).alloc (.cells #[.slice none 0 0,.int .i64 0,.int .i64 0,.bool false] 24))
    clear q1 q2
    go_wp2_with fail
    refine (KO.out _ QA.out).mono ?_
    rintro e w3 ⟨p,rfl,k3,q3⟩
    obtain ⟨A2,n2,c2,B2,bn2,bc2,C2,cn2,cc2⟩:=p
    have QB:=Lib.hid ((QA.out.trans q3).alloc (.cells #[.slice A2 n2 c2,.int .i64 room2,.int .i64 fuse2,.bool off2,.int .i64 frm2,.int .i64 seg2,.int .i64 run2,.slice B2 bn2 bc2,.slice C2 cn2 cc2,.bool down2] 32))
    clear k3 q3 QA
    go_wp2
    go_ret
    exact ⟨by first | rfl | simp,by first | exact QB.out | exact QB.out.drew⟩
  have hr0:0≤room:=by omega
  have KN:=Lib.hid (fun W=>ref_new_any room W hr0)
  have HK0:=Lib.hid (kx_new hr0 hroom)
  have KO:=Lib.hid (fun (W:World) (q:Q w W)=>by
   have:=kOpen_no none 0 0 ⟨[],room,-1,false⟩ W a b (HT.out.q q) (kr0 W).dsk HK0.out.kg.bnd (by rw [redd_none (by simp)];decide) (by rw [rec_new];simp)
   rw [open_new] at this
   exact this)
  clear hr hr0 hroom
  go_enter Tryz.func6,Tryz.ntmps6
  go_upto_region 5 with (fail)
  generalize (w.alloc (.cells #[.int .i64 room,.slice A n c,.int .i64 fuse,.slice K kn kc] 73))=W at Q0 ⊢
  go_wp2_with fail
  refine (kshown_any a b _ (HT.out.q Q0.out)).mono ?_
  rintro e w1 ⟨rfl,q1⟩
  go_wp2_with fail
  refine (KN.out _).mono ?_
  rintro e w2 ⟨rfl,q2⟩
  have Z1:=Lib.hid (((Q0.out.trans q1).trans q2).alloc (.cells #[.slice none 0 0,.int .i64 room,.int .i64 (-1),.bool false] 24))
  clear q1 q2 Q0
  go_wp2_with fail
  refine (KO.out _ Z1.out).mono ?_
  rintro e w3 ⟨p,rfl,k3,q3⟩
  obtain ⟨A3,n3,c3,B3,bn3,bc3,C3,cn3,cc3⟩:=p
  have X0:Hid (Kb (w3.alloc (.cells #[.slice A3 n3 c3,.int .i64 room,.int .i64 (-1),.bool false,.int .i64 1,.int .i64 1,.int .i64 0,.slice B3 bn3 bc3,.slice C3 cn3 cc3,.bool false] 32)) w3.heap.size ⟨A3,n3,c3,B3,bn3,bc3,C3,cn3,cc3⟩ ⟨⟨[],room,-1,false⟩,1,1,0,⟨[],[]⟩,false⟩):=Lib.hid (Kb.new k3)
  have O0:Hid (Q w (w3.alloc (.cells #[.slice A3 n3 c3,.int .i64 room,.int .i64 (-1),.bool false,.int .i64 1,.int .i64 1,.int .i64 0,.slice B3 bn3 bc3,.slice C3 cn3 cc3,.bool false] 32))):=Lib.hid ((Z1.out.trans q3).alloc _)
  have hg:w.heap.size≤w3.heap.size:=(Z1.out.trans q3).size
  clear k3 q3 Z1 KO KN
  go_upto_region 10 with (fail)
  generalize w3.alloc (.cells #[.slice A3 n3 c3,.int .i64 room,.int .i64 (-1),.bool false,.int .i64 1,.int .i64 1,.int .i64 0,.slice B3 bn3 bc3,.slice C3 cn3 cc3,.bool false] 32)=W1 at X0 O0 ⊢
  generalize w3.heap.size=g at X0 hg ⊢
  go_wp2
  go_loopw [12] (fun i wr=>∃ (j:Nat) (p:Kp) (x:Ks),j≤n∧j≤100∧i=.int .i64 j∧Kb wr g p x∧Kx j x∧Q w wr) (fun i _=>n - (intOf i).toNat)
  case atStart=>exact ⟨0,_,_,Nat.zero_le _,Nat.zero_le _,rfl,X0.out,HK0.out,O0.out⟩
  case round =>
   obtain ⟨j,p,x,hj,hj2,rfl,x1,hkg,ho⟩:=hrel
   have X:=Lib.hid x1
   have HG:=Lib.hid hkg
   have O1:=Lib.hid ho
   clear x1 X0 hkg ho O0 HK0
   by_cases hlt:j<n∧j<100
   · obtain ⟨hlt,hlt2⟩:=hlt
     have hjn:(j:Int)<(n:Int):=by omega
     have hjn2:(j:Int)<100:=by omega
     have hj0:(0:Int)≤(j:Int):=by omega
     have hrl:j<rl.length:=by have:=HL.out;omega
     have hbl:j<bl.length:=by have:=HB.out;omega
     obtain ⟨ad,rfl,hab0,y0,y1,y2⟩:=load_raw HA.out.lst hlt hrl
     obtain ⟨e1,e2,hC⟩:=HS.out j hrl hbl
     generalize rl[j]=r at y0 y1 y2 e1 e2 hC
     generalize bl[j]=bb at e1 e2 hC
     obtain ⟨rk,rt,CC,pp,qq⟩:=r
     obtain ⟨k,tok,ws⟩:=bb
     simp only at e1 e2 hC y0 y1 y2
     subst e1 e2
     have y0:=box_ O1.out y0
     have y1:=box_ O1.out y1
     have y2:=box_ O1.out y2
     have KC:=Lib.hid (fun W (y:Q wr W)=>Com_kg HG.out.kg (by omega) p rk rt CC pp qq ws W a b ((HT.out.q O1.out).q y) (X.out.is.q y) ((hC.lst.q O1.out).q y) hC.max)
     have HG2:=Lib.hid (HG.out.com ⟨rk,rt,ws⟩)
     generalize comM x ⟨rk,rt,ws⟩=T at KC HG2
     obtain ⟨T,er⟩:=T
     obtain ⟨⟨l2,room2,fuse2,off2⟩,frm2,seg2,run2,s2,down2⟩:=T
     obtain ⟨A1,n1,c1,B1,bn1,bc1,C1,cn1,cc1⟩:=p
     obtain ⟨⟨l1,room1,fuse1,off1⟩,frm1,seg1,run1,s1,down1⟩:=x
     simp only at KC HG2
     clear hC
     go_upto_region 13 with (fail)
     refine wp_region_heldL 9 (fun w'=>Bx w' g (kL ⟨A1,n1,c1,B1,bn1,bc1,C1,cn1,cc1⟩ ⟨⟨l1,room1,fuse1,off1⟩,frm1,seg1,run1,s1,down1⟩)∧w'.cell? (ad.add (j*3))=some (.int .i64 rk)∧w'.cell? ⟨(ad.add (j*3)).block,(ad.add (j*3)).off+1,none⟩=some (.string rt)∧w'.cell? ⟨(ad.add (j*3)).block,(ad.add (j*3)).off+2,none⟩=some (.slice CC pp qq)) (by kernel_rfl) ?szz13 (fun hHeld=>?rzz13)
     case szz13 =>
      exact ⟨X.out.box.drew,y0,y1,y2⟩
     refine takeL 0 ?v14 ?y14 ?_
     case y14=>intro w hSw;obtain ⟨s0,s1,s2,s3⟩:=hSw;obtain ⟨z0,z1,z2,z3,z4,z5,z6,z7,z8,z9⟩:=kget s0;go_simp;try with_reducible rfl
     refine takeL 1 ?v15 ?y15 ?_
     case y15=>intro w hSw;obtain ⟨s0,s1,s2,s3⟩:=hSw;obtain ⟨z0,z1,z2,z3,z4,z5,z6,z7,z8,z9⟩:=kget s0;go_simp;try with_reducible rfl
     refine takeL 2 ?v16 ?y16 ?_
     case y16=>intro w hSw;obtain ⟨s0,s1,s2,s3⟩:=hSw;obtain ⟨z0,z1,z2,z3,z4,z5,z6,z7,z8,z9⟩:=kget s0;go_simp;try with_reducible rfl
     refine takeL 3 ?v17 ?y17 ?_
     case y17=>intro w hSw;obtain ⟨s0,s1,s2,s3⟩:=hSw;obtain ⟨z0,z1,z2,z3,z4,z5,z6,z7,z8,z9⟩:=kget s0;go_simp;try with_reducible rfl
     refine takeL 4 ?v18 ?y18 ?_
     case y18=>intro w hSw;obtain ⟨s0,s1,s2,s3⟩:=hSw;obtain ⟨z0,z1,z2,z3,z4,z5,z6,z7,z8,z9⟩:=kget s0;go_simp;try with_reducible rfl
     refine oneL 5 (fun K hK=>?_)
     go_simp
     refine (KC.out _ ((Q.refl _).drew)).mono ?_
     rintro e w5 ⟨p5,rfl,k5,q5⟩
     obtain ⟨A5,n5,c5,B5,bn5,bc5,C5,cn5,cc5⟩:=p5
     have QK:=Lib.hid ((Q.refl wr).drew.trans q5)
     have BX:=Lib.hid (X.out.box.q QK.out)
     have U0:=Kb.whole BX.out k5
     have O0:=Q.stk hg (us10 ⟨A5,n5,c5,B5,bn5,bc5,C5,cn5,cc5⟩ ⟨⟨l2,room2,fuse2,off2⟩,frm2,seg2,run2,s2,down2⟩) (O1.out.trans QK.out)
     dsimp only [us10,stk] at U0 O0
     have U:=Lib.hid U0
     have OO:=Lib.hid O0
     clear U0 O0 k5
     go_wp2_with fail
     refine hK.out _ _ ?Szz25 (fun hHeld=>?_)
     case Szz25 =>
      exact ⟨BX.out,box_ QK.out y0,box_ QK.out y1,box_ QK.out y2⟩
     clear hK K
     try simp only [Act.put,sA,sB,sC]
     refine takeL 6 ?v19 ?y19 ?_
     case y19=>intro w hSw;obtain ⟨s0,s1,s2,s3⟩:=hSw;obtain ⟨z0,z1,z2,z3,z4,z5,z6,z7,z8,z9⟩:=kget s0;go_simp;try with_reducible rfl
     refine takeL 7 ?v20 ?y20 ?_
     case y20=>intro w hSw;obtain ⟨s0,s1,s2,s3⟩:=hSw;obtain ⟨z0,z1,z2,z3,z4,z5,z6,z7,z8,z9⟩:=kget s0;go_simp;try with_reducible rfl
     refine wpAnyL_ready (rs:=[8,9]) (by kernel_rfl) (by simp) ?_
     refine consL (fun K hK=>?kzz23) ?_
     case kzz23 =>
      go_simp
      refine hK.out _ _ ?Szz23 (fun hHeld=>?_)
      case Szz23 =>
       exact ⟨BX.out,box_ QK.out y0,box_ QK.out y1,box_ QK.out y2⟩
      clear hK K
      try simp only [Act.put,sA,sB,sC]
      refine oneK (fun K hK=>?_)
      obtain ⟨e0,e1,e2,e3,e4,e5,e6,e7,e8,e9⟩:=kget BX.out
      obtain ⟨f0,f1,f2,f3,f4,f5,f6,f7,f8,f9⟩:=kfree BX.out
      go_simp
      refine hK.out _ _ ?_
      clear hK K
      try simp only [Act.put,sA,sB,sC]
      refine wpAnyH_done (by kernel_rfl) ?_ _
      go_wp2
      go_roundw
      case rel=>exact ⟨j+1,⟨A5,n5,c5,B5,bn5,bc5,C5,cn5,cc5⟩,⟨⟨l2,room2,fuse2,off2⟩,frm2,seg2,run2,s2,down2⟩,by omega,by omega,by go_num,U.out,HG2.out,OO.out⟩
      case measure=>simp [intOf];omega
     refine consK (fun K hK=>?_) AllReadyL.nil
     obtain ⟨e0,e1,e2,e3,e4,e5,e6,e7,e8,e9⟩:=kget BX.out
     obtain ⟨f0,f1,f2,f3,f4,f5,f6,f7,f8,f9⟩:=kfree BX.out
     go_simp
     refine hK.out _ _ ?_
     clear hK K
     try simp only [Act.put,sA,sB,sC]
     refine takH 8 ?_
     refine wpAnyH_done (by kernel_rfl) ?_ _
     go_wp2
     go_roundw
     case rel=>exact ⟨j+1,⟨A5,n5,c5,B5,bn5,bc5,C5,cn5,cc5⟩,⟨⟨l2,room2,fuse2,off2⟩,frm2,seg2,run2,s2,down2⟩,by omega,by omega,by go_num,U.out,HG2.out,OO.out⟩
     case measure=>simp [intOf];omega
   · have hexit:¬((j:Int)<(n:Int))∨((j:Int)<(n:Int)∧¬((j:Int)<100)):=by
       by_cases h:j<n
       · exact .inr ⟨by omega,by omega⟩
       · exact .inl (by omega)
     have hok:=HG.out.kok (by omega) HF.out
     obtain ⟨h1,h2,h3,_,h5,h6⟩:=HG.out.kc.chk HF.out ks
     have KA:=Lib.hid (fun W (y:Q wr W)=>kArm_any p x fuse W (X.out.is.q y))
     have KK:=Lib.hid (fun p' W (hk:Kr W p' (armM x fuse)) (y:Q wr W)=>Check_any p' (armM x fuse) W a b (HT.out.q (O1.out.trans y)) (HER.out.q (O1.out.trans y)) hk hok)
     have KR:=Lib.hid (fun p' W (hk:Kr W p' (chkM (armM x fuse)).1) (y:Q wr W)=>kCrash_any p' (chkM (armM x fuse)).1 K kn kc ks W a b (HT.out.q (O1.out.trans y)) hk (HK.out.q (O1.out.trans y)) HKN.out h5 (by omega))
     rw [h2] at KR
     generalize crsM (chkM (armM x fuse)).1 ks=Z at KR h3 h2
     generalize chkM (armM x fuse)=Y at KK KR h1
     generalize armM x fuse=xa at KA KK
     obtain ⟨z,ez⟩:=Z
     obtain ⟨y,ey⟩:=Y
     simp only at KK KR h1 h3
     obtain ⟨⟨l1,room1,fuse1,off1⟩,frm1,seg1,run1,s1,down1⟩:=x
     obtain ⟨⟨l2,room2,fuse2,off2⟩,frm2,seg2,run2,s2,down2⟩:=y
     obtain ⟨⟨l4,room4,fuse4,off4⟩,frm4,seg4,run4,s4,down4⟩:=z
     simp only at KA KK KR h1 h3
     subst h1 h3
     obtain ⟨A1,n1,c1,B1,bn1,bc1,C1,cn1,cc1⟩:=p
     have KS:=Lib.hid (fun B C B2 C2 bn bc cn cc bn2 bc2 cn2 cc2 W i1 i2 i3 i4=>decide_eq_true (rfl:s4=s4) ▸ refSameS_any B C B2 C2 bn bc cn cc bn2 bc2 cn2 cc2 s4 s4 W i1 i2 i3 i4)
     obtain ⟨e0,e1,e2,e3,e4,e5,e6,e7,e8,e9⟩:=kget X.out.box
     clear hlt hok h2 h5 h6
     rcases hexit with hx1 | ⟨hx1,hx2⟩
     all_goals
       go_wp2_with fail
       refine (KA.out _ (Q.refl _)).mono ?_
       rintro e w5 ⟨p5,rfl,k5,q5⟩
       have K5:=Lib.hid k5
       have Q5:=Lib.hid q5
       clear k5 q5 e0 e1 e2 e3 e4 e5 e6 e7 e8 e9
       go_wp2_with fail
       refine (KK.out p5 _ K5.out Q5.out).mono ?_
       rintro e w6 ⟨p6,rfl,k6,q6⟩
       obtain ⟨A6,n6,c6,B6,bn6,bc6,C6,cn6,cc6⟩:=p6
       have Y6:Hid (Kb (w6.alloc (.cells #[.slice A6 n6 c6,.int .i64 room2,.int .i64 fuse2,.bool off2,.int .i64 frm2,.int .i64 seg2,.int .i64 run2,.slice B6 bn6 bc6,.slice C6 cn6 cc6,.bool down2] 32)) w6.heap.size ⟨A6,n6,c6,B6,bn6,bc6,C6,cn6,cc6⟩ ⟨⟨l2,room2,fuse2,off2⟩,frm2,seg2,run2,s4,down2⟩):=Lib.hid (Kb.new k6)
       have Q6:Hid (Q wr (w6.alloc (.cells #[.slice A6 n6 c6,.int .i64 room2,.int .i64 fuse2,.bool off2,.int .i64 frm2,.int .i64 seg2,.int .i64 run2,.slice B6 bn6 bc6,.slice C6 cn6 cc6,.bool down2] 32))):=Lib.hid ((Q5.out.trans q6).alloc _)
       clear k6 q6 K5 Q5
       go_upto_region 15 with (fail)
       generalize w6.alloc (.cells #[.slice A6 n6 c6,.int .i64 room2,.int .i64 fuse2,.bool off2,.int .i64 frm2,.int .i64 seg2,.int .i64 run2,.slice B6 bn6 bc6,.slice C6 cn6 cc6,.bool down2] 32)=W6 at Y6 Q6 ⊢
       generalize w6.heap.size=g6 at Y6 ⊢
       obtain ⟨e0,e1,e2,e3,e4,e5,e6,e7,e8,e9⟩:=kget Y6.out.box
       go_wp2_with fail
       refine (KR.out _ _ Y6.out.is Q6.out).mono ?_
       rintro e w7 ⟨p7,rfl,k7,q7⟩
       obtain ⟨A7,n7,c7,B7,bn7,bc7,C7,cn7,cc7⟩:=p7
       have Y7:Hid (Kb (w7.alloc (.cells #[.slice A7 n7 c7,.int .i64 room4,.int .i64 fuse4,.bool off4,.int .i64 frm4,.int .i64 seg4,.int .i64 run4,.slice B7 bn7 bc7,.slice C7 cn7 cc7,.bool down4] 32)) w7.heap.size ⟨A7,n7,c7,B7,bn7,bc7,C7,cn7,cc7⟩ ⟨⟨l4,room4,fuse4,off4⟩,frm4,seg4,run4,s4,down4⟩):=Lib.hid (Kb.new k7)
       have Q7:Hid (Q wr (w7.alloc (.cells #[.slice A7 n7 c7,.int .i64 room4,.int .i64 fuse4,.bool off4,.int .i64 frm4,.int .i64 seg4,.int .i64 run4,.slice B7 bn7 bc7,.slice C7 cn7 cc7,.bool down4] 32))):=Lib.hid ((Q6.out.trans q7).alloc _)
       have Z6:Hid (Kb (w7.alloc (.cells #[.slice A7 n7 c7,.int .i64 room4,.int .i64 fuse4,.bool off4,.int .i64 frm4,.int .i64 seg4,.int .i64 run4,.slice B7 bn7 bc7,.slice C7 cn7 cc7,.bool down4] 32)) g6 ⟨A6,n6,c6,B6,bn6,bc6,C6,cn6,cc6⟩ ⟨⟨l2,room2,fuse2,off2⟩,frm2,seg2,run2,s4,down2⟩):=Lib.hid (Y6.out.q (q7.alloc _))
       clear k7 q7 Q6 Y6 e0 e1 e2 e3 e4 e5 e6 e7 e8 e9
       go_upto_region 16 with (fail)
       generalize w7.alloc (.cells #[.slice A7 n7 c7,.int .i64 room4,.int .i64 fuse4,.bool off4,.int .i64 frm4,.int .i64 seg4,.int .i64 run4,.slice B7 bn7 bc7,.slice C7 cn7 cc7,.bool down4] 32)=W7 at Y7 Q7 Z6 ⊢
       generalize w7.heap.size=g7 at Y7 ⊢
       have XX:=Lib.hid (X.out.q Q7.out)
       obtain ⟨e0,e1,e2,e3,e4,e5,e6,e7,e8,e9⟩:=kget XX.out.box
       obtain ⟨f0,f1,f2,f3,f4,f5,f6,f7,f8,f9⟩:=kget Z6.out.box
       go_wp2_with fail
       refine (KS.out B1 C1 B6 C6 bn1 bc1 cn1 cc1 bn6 bc6 cn6 cc6 _ XX.out.is.data XX.out.is.toks Z6.out.is.data Z6.out.is.toks).mono ?_
       rintro e w8 ⟨rfl,q8⟩
       have XY:=Lib.hid (XX.out.q q8)
       have Y8:=Lib.hid (Y7.out.q q8)
       have Q8:=Lib.hid (O1.out.trans (Q7.out.trans q8))
       clear q8 e0 e1 e2 e3 e4 e5 e6 e7 e8 e9 f0 f1 f2 f3 f4 f5 f6 f7 f8 f9 XX Z6 Y7
       obtain ⟨e0,e1,e2,e3,e4,e5,e6,e7,e8,e9⟩:=kget XY.out.box
       obtain ⟨f0,f1,f2,f3,f4,f5,f6,f7,f8,f9⟩:=kget Y8.out.box
       go_wp2_with fail
       refine (KS.out B1 C1 B7 C7 bn1 bc1 cn1 cc1 bn7 bc7 cn7 cc7 _ XY.out.is.data XY.out.is.toks Y8.out.is.data Y8.out.is.toks).mono ?_
       rintro e w9 ⟨rfl,q9⟩
       have Q9:=Lib.hid (Q8.out.trans q9)
       clear q9
       go_wp2
       go_ret
       exact ⟨by first | rfl | simp,by first | exact Q9.out | exact Q9.out.drew⟩
theorem opened (W:World) (args:Array Value) (hn:args.size=1) (h:∀ (j:Nat) t v,Tryz.f6.params[j]? = some t→args[j]? = some v→RdV W t v∧(false=true→RdU W t v.cells.toList)) (hL:laidMetH Tryz.prog Rows.kvChecksRow.laid W) :
    Calls Tryz.prog 6 args W fun e W'=>e=.returned (.bool true)∧Q W W':=by
  obtain ⟨v,rfl⟩:=args1 hn
  rw [Tryz.params6] at h
  obtain ⟨cs,rfl,hr⟩:=(h 0 73 v rfl rfl).1.struct Tryz.underlying73
  obtain ⟨hl,_⟩:=hr.struct Tryz.underlying73
  rw [show Tryz.prog.cellsOf 73 = 4 by kernel_rfl] at hl
  match cs,hl with
  | [x0,x1,x2,x3],_ =>
    obtain ⟨room,e0,r0⟩:=(hr.field Tryz.underlying73 0 (ty := 3) 0 1 rfl (by kernel_rfl)).int Tryz.underlying3
    obtain ⟨A,n,c,rl,e1,iA,bl,hbl,hst⟩:=open_batches (hr.field Tryz.underlying73 1 (ty := 64) 1 1 rfl (by kernel_rfl))
    obtain ⟨fuse,e2,r2⟩:=(hr.field Tryz.underlying73 2 (ty := 3) 2 1 rfl (by kernel_rfl)).int Tryz.underlying3
    obtain ⟨K,kn,kc,ks,e3,hK,hkn,_,_⟩:=open_ints (hr.field Tryz.underlying73 3 (ty := 49) 3 1 rfl (by kernel_rfl))
    simp at e0 e1 e2 e3
    subst e0 e1 e2 e3
    have hl:=kt_laid2 hL
    exact walk room A n c rl bl fuse K kn kc ks W hl.1 hl.2 (wf_i64 r0).2 iA hbl hst (wf_i64 r2) hK (by unfold maxLen;omega)
theorem start_met (os:Os):laidMetH Tryz.prog Rows.kvChecksRow.laid ((World.doorLaid Tryz.prog 600 os).forCall (fun _ _=>0) ⟨#[],#[.agg #[.int .i64 0,.slice none 0 0,.int .i64 0,.slice none 0 0]],[]⟩).memory:=
  laidMetH_of_parts3 (fuel:=8) (laidMet_of_run' 8 (by kernel_rfl) (by kernel_rfl)) (by kernel_rfl) (by kernel_rfl)
theorem reads (os:Os) {H:Type} (enc:TypeId×Value→H):∃ places,DataW.whole enc Tryz.prog ((World.doorLaid Tryz.prog 600 os).forCall (fun _ _=>0) ⟨#[],#[.agg #[.int .i64 0,.slice none 0 0,.int .i64 0,.slice none 0 0]],[]⟩).memory Tryz.f6.params.toList Rows.kvChecksSpec.vars false (#[.agg #[.int .i64 0,.slice none 0 0,.int .i64 0,.slice none 0 0]]:Array Value).toList 8=some ([.agg [.lit (.int .i64 0),.nil,.lit (.int .i64 0),.nil]],[],places):=
  ⟨[],by kernel_rfl⟩
theorem lifted (os:Os) (started:os.Started) (H:Type) (enc:TypeId×Value→H) (F:Stop.Interp) :
    ReturnsInHanded {} Tryz.checked os 6 .any ((OpenSpec.ofChange Rows.kvChecksSpec).preRow enc Tryz.prog Tryz.f6 Rows.kvChecksRow.domain false Rows.kvChecksRow.laid) (((OpenSpec.ofChange Rows.kvChecksSpec).at F).post enc Tryz.prog Tryz.f6 false true false false):=by
  obtain ⟨places,hx⟩:=reads os enc
  refine returnsInHanded_of_row (C:=Tryz.checked) (s:=OpenSpec.ofChange Rows.kvChecksSpec) ownKnob_ started (by kernel_rfl) Tryz.func6
    (witness_row_atRef (enc:=enc) (C:=Tryz.checked) false (World.doorLaid Tryz.prog 600 os) #[.agg #[.int .i64 0,.slice none 0 0,.int .i64 0,.slice none 0 0]] rfl (by kernel_rfl) (by kernel_rfl) (by kernel_rfl)
      (OpenSpec.preRow_of_cond 8 hx (by kernel_rfl) (fun k hk=>by cases hk) (by kernel_rfl) (start_met os))) ?_
  intro W base args ds gs before hval hW _ hcond hsz hL _ _
  exact framedC (s:=Rows.kvChecksSpec) false Rows.kvChecksRow.laid 1 (by rw [Tryz.params6];rfl) rfl (by kernel_rfl) (by kernel_rfl)
    (fun H ds h=>by match ds,h with | [d0],_=>exact ⟨rfl,rfl,rfl⟩)
    opened H enc W base args ds gs before hval hW (fun h=>by cases h) hsz hL
theorem over:Rows.KvChecksSaid:=
  OpenClaim.holds_of_cond 6 Tryz.f6 rfl rfl rfl rfl rfl rfl rfl ⟨rfl,rfl,rfl,rfl,rfl⟩ rfl rfl rfl rfl rfl (by kernel_rfl) Tryz.func6 (by kernel_rfl)
    (of_decide_eq_true (by kernel_rfl)) (by unfold Func.isWrapper;first | (rw [if_pos (by decide +kernel)];kernel_rfl) | (rw [if_neg (by decide +kernel)];exact ⟨rfl,rfl⟩))
    (fun os started H enc _ F=>by rw [OpenClaim.pre_eq_preRow];exact lifted os started H enc F)
theorem plain (f:FuncId) (fn:Func) (hf:Tryz.pinned.checked.prog.funcNamed "stanchion/stanchionlaw08.KvChecks" = some f) (hfn:Tryz.pinned.checked.prog.funcs[f]? = some fn) :
    true=Tryz.pinned.checked.prog.looks []∧∀ (j:Nat) t,fn.params[j]? = some t→Tryz.pinned.checked.prog.wantsStandIn t=false:=by
  obtain rfl:f = 6 := Option.some.inj ((show Tryz.prog.funcNamed "stanchion/stanchionlaw08.KvChecks" = some 6 by kernel_rfl).symm.trans hf) |>.symm
  obtain rfl:fn=Tryz.f6 := (Option.some.inj (Tryz.func6.symm.trans hfn)).symm
  refine ⟨by kernel_rfl,fun j t ht=>?_⟩
  have h0:(Tryz.f6.params.toList.all fun t=>!(Tryz.prog.wantsStandIn t))=true:=by kernel_rfl
  have h1:=List.all_eq_true.1 h0 t (by rw [←Array.getElem?_toList] at ht;exact List.mem_of_getElem? ht)
  exact (by simpa using h1:Tryz.prog.wantsStandIn t=false)
theorem proved:Rows.KvChecksCardSaid:=
  Claim7.holds_tied_plain_at .later [] _ _ _ _ over (fun _ h=>by cases h) (by kernel_rfl) (fun _ h=>by cases h) kvChecks_row_tie rfl ⟨rfl,rfl⟩ (by kernel_rfl) rfl plain (by kernel_rfl)
end Go.Proofs.YtajidconlmhjfaaGreatDoor.kvChecks
