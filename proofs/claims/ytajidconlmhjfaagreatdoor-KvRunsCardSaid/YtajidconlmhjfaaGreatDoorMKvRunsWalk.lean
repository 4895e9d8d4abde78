/- For every room and every list of batches: behind each of at most 60 commits a check; one that is OK leaves the run's number one higher, the log's begin at the next segment, and neither the last segment nor the last run; one that isn't leaves the state. No condition. -/
import Derived.Test.YtajidconlmhjfaaGreatDoorR15
import Derived.Test.YtajidconlmhjfaaGreatDoorR4
set_option linter.unusedVariables false
set_option linter.unusedSimpArgs false
set_option maxRecDepth 100000
namespace Go.Proofs.YtajidconlmhjfaaGreatDoor.kvRuns
open Go.ChangeShapes Go.WideShapes Go.ChangeAt Go.RowKit Dkm Prm Km Wm
set_option maxHeartbeats 16000000 in
theorem walk (room:Int) (A:Option Addr) (n c:Nat) (rl:List BRaw) (bl:List Bm.Bt) (w:World) (hT:∃ a b,Kt w a b) (hE:Errs w)
    (hroom:room≤9223372036854775807) (hA:In_ rawK w A n c rl) (hbl:bl.length=n) (hst:∀ i,∀ h1:i<rl.length,∀ h2:i<bl.length,Stands w rl[i] bl[i]) :
    Calls Tryz.prog 7 #[.int .i64 room,.slice A n c] w fun e w'=>e=.returned (.bool true)∧Q w w':=by
  obtain ⟨a,b,hT⟩:=hT
  have HT:=Lib.hid hT
  have HER:=Lib.hid hE
  have HA:=Lib.hid hA
  have HS:=Lib.hid hst
  have HB:=Lib.hid hbl
  have HL:=Lib.hid hA.len
  have hn0:n≤9223372036854775807:=hA.max
  clear hT hE hA hst hbl
  by_cases hr:room<0
  · have KN:=Lib.hid (fun W=>ref_new_neg room W hr)
    have KO:=Lib.hid (fun (W:World) (q:Q w W)=>kOpen_no none 0 0 ⟨[],0,0,false⟩ W a b (HT.out.q q) (kr0 W).dsk ⟨by simp,by simp,⟨by simp,by simp⟩,⟨by simp,by simp⟩⟩ (by rw [redd_none (by simp)];decide) (by rw [rec_new];simp))
    generalize openM ⟨[],0,0,false⟩=y at KO
    obtain ⟨y,er⟩:=y
    obtain ⟨⟨l2,room2,fuse2,off2⟩,frm2,seg2,run2,s2,down2⟩:=y
    clear hr
    go_enter Tryz.func7,Tryz.ntmps7
    go_wp2_with fail
    refine (kshown_any a b _ HT.out).mono ?_
    rintro e w1 ⟨rfl,q1⟩
    go_wp2_with fail
    refine (KN.out _).mono ?_
    rintro e w2 ⟨rfl,q2⟩
    have QA:=Lib.hid ((q1.trans q2).alloc (.cells #[.slice none 0 0,.int .i64 0,.int .i64 0,.bool false] 24))
    clear q1 q2
    go_wp2_with fail
    refine (KO.out _ QA.out).mono ?_
    rintro e w3 ⟨p,rfl,k3,q3⟩
    obtain ⟨A2,n2,c2,B2,bn2,bc2,C2,cn2,cc2⟩:=p
    have QB:=Lib.hid ((QA.out.trans q3).alloc (.cells #[.slice A2 n2 c2,.int .i64 room2,.int .i64 fuse2,.bool off2,.int .i64 frm2,.int .i64 seg2,.int .i64 run2,.slice B2 bn2 bc2,.slice C2 cn2 cc2,.bool down2] 32))
    clear k3 q3 QA
    go_wp2
    go_ret
    exact ⟨by first | rfl | simp,by first | exact QB.out | exact QB.out.drew⟩
  have hr0:0≤room:=by omega
  have KN:=Lib.hid (fun W=>ref_new_any room W hr0)
  have HK0:=Lib.hid (kq_new hr0 hroom)
  have KO:=Lib.hid (fun (W:World) (q:Q w W)=>by
   have:=kOpen_no none 0 0 ⟨[],room,-1,false⟩ W a b (HT.out.q q) (kr0 W).dsk HK0.out.bnd (by rw [redd_none (by simp)];decide) (by rw [rec_new];simp)
   rw [open_new] at this
   exact this)
  clear hr hr0 hroom
  go_enter Tryz.func7,Tryz.ntmps7
  go_wp2_with fail
  refine (kshown_any a b _ HT.out).mono ?_
  rintro e w1 ⟨rfl,q1⟩
  go_wp2_with fail
  refine (KN.out _).mono ?_
  rintro e w2 ⟨rfl,q2⟩
  have Z1:=Lib.hid ((q1.trans q2).alloc (.cells #[.slice none 0 0,.int .i64 room,.int .i64 (-1),.bool false] 24))
  clear q1 q2
  go_wp2_with fail
  refine (KO.out _ Z1.out).mono ?_
  rintro e w3 ⟨p,rfl,k3,q3⟩
  obtain ⟨A3,n3,c3,B3,bn3,bc3,C3,cn3,cc3⟩:=p
  have X0:Hid (Kb (w3.alloc (.cells #[.slice A3 n3 c3,.int .i64 room,.int .i64 (-1),.bool false,.int .i64 1,.int .i64 1,.int .i64 0,.slice B3 bn3 bc3,.slice C3 cn3 cc3,.bool false] 32)) w3.heap.size ⟨A3,n3,c3,B3,bn3,bc3,C3,cn3,cc3⟩ ⟨⟨[],room,-1,false⟩,1,1,0,⟨[],[]⟩,false⟩):=Lib.hid (Kb.new k3)
  have O0:Hid (Q w (w3.alloc (.cells #[.slice A3 n3 c3,.int .i64 room,.int .i64 (-1),.bool false,.int .i64 1,.int .i64 1,.int .i64 0,.slice B3 bn3 bc3,.slice C3 cn3 cc3,.bool false] 32))):=Lib.hid ((Z1.out.trans q3).alloc _)
  have hg:w.heap.size≤w3.heap.size:=(Z1.out.trans q3).size
  clear k3 q3 Z1 KO KN
  go_upto_region 6 with (fail)
  generalize w3.alloc (.cells #[.slice A3 n3 c3,.int .i64 room,.int .i64 (-1),.bool false,.int .i64 1,.int .i64 1,.int .i64 0,.slice B3 bn3 bc3,.slice C3 cn3 cc3,.bool false] 32)=W1 at X0 O0 ⊢
  generalize w3.heap.size=g at X0 hg ⊢
  go_wp2
  go_loopw [10] (fun i wr=>∃ (j:Nat) (p:Kp) (x:Ks),j≤n∧j≤60∧i=.int .i64 j∧Kb wr g p x∧Kq j x∧Q w wr) (fun i _=>n - (intOf i).toNat)
  case atStart=>exact ⟨0,_,_,Nat.zero_le _,Nat.zero_le _,rfl,X0.out,HK0.out,O0.out⟩
  case round =>
   obtain ⟨j,p,x,hj,hj2,rfl,x1,hkg,ho⟩:=hrel
   have X:=Lib.hid x1
   have HG:=Lib.hid hkg
   have O1:=Lib.hid ho
   clear x1 X0 hkg ho O0 HK0
   by_cases hlt:j<n∧j<60
   · obtain ⟨hlt,hlt2⟩:=hlt
     have hjn:(j:Int)<(n:Int):=by omega
     have hjn2:(j:Int)<60:=by omega
     have hj0:(0:Int)≤(j:Int):=by omega
     have hrl:j<rl.length:=by have:=HL.out;omega
     have hbl:j<bl.length:=by have:=HB.out;omega
     obtain ⟨ad,rfl,hab0,y0,y1,y2⟩:=load_raw HA.out.lst hlt hrl
     obtain ⟨e1,e2,hC⟩:=HS.out j hrl hbl
     generalize rl[j]=r at y0 y1 y2 e1 e2 hC
     generalize bl[j]=bb at e1 e2 hC
     obtain ⟨rk,rt,CC,pp,qq⟩:=r
     obtain ⟨k,tok,ws⟩:=bb
     simp only at e1 e2 hC y0 y1 y2
     subst e1 e2
     have y0:=box_ O1.out y0
     have y1:=box_ O1.out y1
     have y2:=box_ O1.out y2
     have KC:=Lib.hid (fun W (y:Q wr W)=>Com_kq HG.out (by omega) p rk rt CC pp qq ws W a b ((HT.out.q O1.out).q y) (X.out.is.q y) ((hC.lst.q O1.out).q y) hC.max)
     have HG2:=Lib.hid (HG.out.com ⟨rk,rt,ws⟩)
     generalize comM x ⟨rk,rt,ws⟩=T at KC HG2
     obtain ⟨T,er⟩:=T
     obtain ⟨⟨l2,room2,fuse2,off2⟩,frm2,seg2,run2,s2,down2⟩:=T
     obtain ⟨A1,n1,c1,B1,bn1,bc1,C1,cn1,cc1⟩:=p
     obtain ⟨⟨l1,room1,fuse1,off1⟩,frm1,seg1,run1,s1,down1⟩:=x
     simp only at KC HG2
     clear hC
     go_upto_region 9 with (fail)
     go_cut [] from 43 to 124 (fun wx=>∃ (A5:Option Addr) (n5 c5:Nat) (B5:Option Addr) (bn5 bc5:Nat) (C5:Option Addr) (cn5 cc5:Nat),Kb wx g ⟨A5,n5,c5,B5,bn5,bc5,C5,cn5,cc5⟩ ⟨⟨l2,room2,fuse2,off2⟩,frm2,seg2,run2,s2,down2⟩∧Q w wx)
     case first =>
      refine wp_region_heldL 9 (fun w'=>Bx w' g (kL ⟨A1,n1,c1,B1,bn1,bc1,C1,cn1,cc1⟩ ⟨⟨l1,room1,fuse1,off1⟩,frm1,seg1,run1,s1,down1⟩)∧w'.cell? (ad.add (j*3))=some (.int .i64 rk)∧w'.cell? ⟨(ad.add (j*3)).block,(ad.add (j*3)).off+1,none⟩=some (.string rt)∧w'.cell? ⟨(ad.add (j*3)).block,(ad.add (j*3)).off+2,none⟩=some (.slice CC pp qq)) (by kernel_rfl) ?szz13 (fun hHeld=>?rzz13)
      case szz13 =>
       exact ⟨X.out.box.drew,y0,y1,y2⟩
      refine takeL 0 ?v14 ?y14 ?_
      case y14=>intro w hSw;obtain ⟨s0,s1,s2,s3⟩:=hSw;obtain ⟨z0,z1,z2,z3,z4,z5,z6,z7,z8,z9⟩:=kget s0;go_simp;try with_reducible rfl
      refine takeL 1 ?v15 ?y15 ?_
      case y15=>intro w hSw;obtain ⟨s0,s1,s2,s3⟩:=hSw;obtain ⟨z0,z1,z2,z3,z4,z5,z6,z7,z8,z9⟩:=kget s0;go_simp;try with_reducible rfl
      refine takeL 2 ?v16 ?y16 ?_
      case y16=>intro w hSw;obtain ⟨s0,s1,s2,s3⟩:=hSw;obtain ⟨z0,z1,z2,z3,z4,z5,z6,z7,z8,z9⟩:=kget s0;go_simp;try with_reducible rfl
      refine takeL 3 ?v17 ?y17 ?_
      case y17=>intro w hSw;obtain ⟨s0,s1,s2,s3⟩:=hSw;obtain ⟨z0,z1,z2,z3,z4,z5,z6,z7,z8,z9⟩:=kget s0;go_simp;try with_reducible rfl
      refine takeL 4 ?v18 ?y18 ?_
      case y18=>intro w hSw;obtain ⟨s0,s1,s2,s3⟩:=hSw;obtain ⟨z0,z1,z2,z3,z4,z5,z6,z7,z8,z9⟩:=kget s0;go_simp;try with_reducible rfl
      refine oneL 5 (fun K hK=>?_)
      go_simp
      refine (KC.out _ ((Q.refl _).drew)).mono ?_
      rintro e w5 ⟨p5,rfl,k5,q5⟩
      obtain ⟨A5,n5,c5,B5,bn5,bc5,C5,cn5,cc5⟩:=p5
      have QK:=Lib.hid ((Q.refl wr).drew.trans q5)
      have BX:=Lib.hid (X.out.box.q QK.out)
      have U0:=Kb.whole BX.out k5
      have O0:=Q.stk hg (us10 ⟨A5,n5,c5,B5,bn5,bc5,C5,cn5,cc5⟩ ⟨⟨l2,room2,fuse2,off2⟩,frm2,seg2,run2,s2,down2⟩) (O1.out.trans QK.out)
      dsimp only [us10,stk] at U0 O0
      have U:=Lib.hid U0
      have OO:=Lib.hid O0
      clear U0 O0 k5
      go_wp2_with fail
      refine hK.out _ _ ?Szz25 (fun hHeld=>?_)
      case Szz25 =>
       exact ⟨BX.out,box_ QK.out y0,box_ QK.out y1,box_ QK.out y2⟩
      clear hK K
      try simp only [Act.put,sA,sB,sC]
      refine takeL 6 ?v19 ?y19 ?_
      case y19=>intro w hSw;obtain ⟨s0,s1,s2,s3⟩:=hSw;obtain ⟨z0,z1,z2,z3,z4,z5,z6,z7,z8,z9⟩:=kget s0;go_simp;try with_reducible rfl
      refine takeL 7 ?v20 ?y20 ?_
      case y20=>intro w hSw;obtain ⟨s0,s1,s2,s3⟩:=hSw;obtain ⟨z0,z1,z2,z3,z4,z5,z6,z7,z8,z9⟩:=kget s0;go_simp;try with_reducible rfl
      refine wpAnyL_ready (rs:=[8,9]) (by kernel_rfl) (by simp) ?_
      refine consL (fun K hK=>?kzz23) ?_
      case kzz23 =>
       go_simp
       refine hK.out _ _ ?Szz23 (fun hHeld=>?_)
       case Szz23 =>
        exact ⟨BX.out,box_ QK.out y0,box_ QK.out y1,box_ QK.out y2⟩
       clear hK K
       try simp only [Act.put,sA,sB,sC]
       refine oneK (fun K hK=>?_)
       obtain ⟨e0,e1,e2,e3,e4,e5,e6,e7,e8,e9⟩:=kget BX.out
       obtain ⟨f0,f1,f2,f3,f4,f5,f6,f7,f8,f9⟩:=kfree BX.out
       go_simp
       refine hK.out _ _ ?_
       clear hK K
       try simp only [Act.put,sA,sB,sC]
       refine wpAnyH_done (by kernel_rfl) ?_ _
       go_wp2_with fail
       go_meet
       exact ⟨A5,n5,c5,B5,bn5,bc5,C5,cn5,cc5,U.out,OO.out⟩
      refine consK (fun K hK=>?_) AllReadyL.nil
      obtain ⟨e0,e1,e2,e3,e4,e5,e6,e7,e8,e9⟩:=kget BX.out
      obtain ⟨f0,f1,f2,f3,f4,f5,f6,f7,f8,f9⟩:=kfree BX.out
      go_simp
      refine hK.out _ _ ?_
      clear hK K
      try simp only [Act.put,sA,sB,sC]
      refine takH 8 ?_
      refine wpAnyH_done (by kernel_rfl) ?_ _
      go_wp2_with fail
      go_meet
      exact ⟨A5,n5,c5,B5,bn5,bc5,C5,cn5,cc5,U.out,OO.out⟩
     case rest =>
      obtain ⟨A5,n5,c5,B5,bn5,bc5,C5,cn5,cc5,u,oo⟩:=hcut
      have U:=Lib.hid u
      have OO:=Lib.hid oo
      clear u oo
      generalize wc=W2 at U OO ⊢
      have hok:=HG2.out.kok (by omega)
      have KK:=Lib.hid (fun p' W (hk:Kr W p' ⟨⟨l2,room2,fuse2,off2⟩,frm2,seg2,run2,s2,down2⟩) (y:Q w W)=>Check_any p' ⟨⟨l2,room2,fuse2,off2⟩,frm2,seg2,run2,s2,down2⟩ W a b (HT.out.q y) (HER.out.q y) hk hok)
      have hst2:(chkM ⟨⟨l2,room2,fuse2,off2⟩,frm2,seg2,run2,s2,down2⟩).1.s=s2:=chk_state _
      have HN:=Lib.hid (fun h0=>(⟨HG2.out.chk h0,HG2.out.seen h0⟩:_∧_))
      clear hok
      generalize chkM ⟨⟨l2,room2,fuse2,off2⟩,frm2,seg2,run2,s2,down2⟩=Y at KK hst2 HN
      obtain ⟨y,ey⟩:=Y
      obtain ⟨⟨l3,room3,fuse3,off3⟩,frm3,seg3,run3,s3,down3⟩:=y
      simp only at KK hst2 HN
      subst s3
      obtain ⟨e0,e1,e2,e3,e4,e5,e6,e7,e8,e9⟩:=kget U.out.box
      go_upto_region 10 with (fail)
      go_wp2_with fail
      refine (KK.out _ _ U.out.is OO.out).mono ?_
      rintro e w6 ⟨p6,rfl,k6,q6⟩
      obtain ⟨A6,n6,c6,B6,bn6,bc6,C6,cn6,cc6⟩:=p6
      have Y6:Hid (Kb (w6.alloc (.cells #[.slice A6 n6 c6,.int .i64 room3,.int .i64 fuse3,.bool off3,.int .i64 frm3,.int .i64 seg3,.int .i64 run3,.slice B6 bn6 bc6,.slice C6 cn6 cc6,.bool down3] 32)) w6.heap.size ⟨A6,n6,c6,B6,bn6,bc6,C6,cn6,cc6⟩ ⟨⟨l3,room3,fuse3,off3⟩,frm3,seg3,run3,s2,down3⟩):=Lib.hid (Kb.new k6)
      have U6:Hid (Kb (w6.alloc (.cells #[.slice A6 n6 c6,.int .i64 room3,.int .i64 fuse3,.bool off3,.int .i64 frm3,.int .i64 seg3,.int .i64 run3,.slice B6 bn6 bc6,.slice C6 cn6 cc6,.bool down3] 32)) g ⟨A5,n5,c5,B5,bn5,bc5,C5,cn5,cc5⟩ ⟨⟨l2,room2,fuse2,off2⟩,frm2,seg2,run2,s2,down2⟩):=Lib.hid (U.out.q (q6.alloc _))
      have Q6:Hid (Q w (w6.alloc (.cells #[.slice A6 n6 c6,.int .i64 room3,.int .i64 fuse3,.bool off3,.int .i64 frm3,.int .i64 seg3,.int .i64 run3,.slice B6 bn6 bc6,.slice C6 cn6 cc6,.bool down3] 32))):=Lib.hid ((OO.out.trans q6).alloc _)
      have hg2:g<w6.heap.size:=Nat.lt_of_lt_of_le (block_lt_of_cell e0) q6.size
      clear k6 q6 U OO e0 e1 e2 e3 e4 e5 e6 e7 e8 e9
      go_upto_region 11 with (fail)
      generalize w6.alloc (.cells #[.slice A6 n6 c6,.int .i64 room3,.int .i64 fuse3,.bool off3,.int .i64 frm3,.int .i64 seg3,.int .i64 run3,.slice B6 bn6 bc6,.slice C6 cn6 cc6,.bool down3] 32)=W6 at Y6 U6 Q6 ⊢
      generalize w6.heap.size=g6 at Y6 hg2 ⊢
      obtain ⟨e0,e1,e2,e3,e4,e5,e6,e7,e8,e9⟩:=kget U6.out.box
      obtain ⟨yc0,yc1,yc2,yc3,yc4,yc5,yc6,yc7,yc8,yc9⟩:=kget Y6.out.box
      by_cases h0:ey=0
      · have hb:(ey != 0)=false:=by simp [h0]
        obtain ⟨HQ,r1,r2,r3,r4,r5,r6,r7,r8,⟨r9,r9'⟩,r10,r10'⟩:=HN.out h0
        try simp only at r1 r2 r3 r4 r5 r6 r7 r8 r9 r9' r10 r10'
        have HQ:=Lib.hid HQ
        have FD:=Lib.hid (fun W (q:Q W6 W)=>ref_find (namB seg2) A6 n6 c6 room3 fuse3 off3 l3 W ((Y6.out.is.dsk.q q).files) Y6.out.is.dsk.max)
        have FE:=Lib.hid (fun W (q:Q W6 W)=>ref_find (rnamB run2) A6 n6 c6 room3 fuse3 off3 l3 W ((Y6.out.is.dsk.q q).files) Y6.out.is.dsk.max)
        have FR:=Lib.hid (fun W=>refRunName_any seg2 W (by omega) (by omega))
        have FS:=Lib.hid (fun W (q:Q W6 W)=>runName_any run2 W (((HT.out.q Q6.out).q q).tab))
        generalize hit (namB seg2) l3=H1 at FD r4
        generalize hit (rnamB run2) l3=H2 at FE r5
        obtain ⟨⟨ha1,ha2,ha3⟩,hab⟩:=H1
        obtain ⟨⟨hc1,hc2,hc3⟩,hcb⟩:=H2
        simp only at FD FE r4 r5
        subst r4 r5
        rw [←r6] at FD
        clear r6
        generalize rnamB seg2=R at FD FR r7 r8
        generalize rnamB run2=R2 at FE FS
        have r7i:(1:Int)≤(R.size:Int):=by omega
        have r8e:(R.extract 1 R.size).size≤8:=by rw [ByteArray.size_extract];omega
        have r8g:¬ 9223372036854775807<R.size:=by omega
        clear HN h0
        go_upto_region 13 with (fail)
        go_cut [13,14] from 43 to 124 (fun s13 s14 wx=>s14=.bool false∧Q W6 wx)
        case first =>
         refine wp_region_heldL 12 (Q W6) (by kernel_rfl) ?szz26 (fun hHeld=>?rzz26)
         case szz26 =>
          exact (Q.refl W6).drew
         generalize hgen:W6.drew=D0 at hHeld ⊢
         clear hgen
         refine takL 0 ?_
         refine takeL 1 ?v28 ?y28 ?_
         case y28=>intro w hSw;have z0:=box_ hSw yc0;have z1:=box_ hSw yc1;have z2:=box_ hSw yc2;have z3:=box_ hSw yc3;clear hSw;go_simp;try with_reducible rfl
         refine takL 2 ?_
         refine takeL 3 ?v30 ?y30 ?_
         case y30=>intro w hSw;have z5:=box_ hSw e5;clear hSw;go_simp;try with_reducible rfl
         refine wpAnyL_ready (rs:=[4,11]) (by kernel_rfl) (by simp) ?_
         refine consL (fun K hK=>?kzz69) ?_
         case kzz69 =>
          go_simp
          refine (FR.out _).mono ?_
          rintro e w7 ⟨rfl,q7⟩
          go_wp2_with fail
          refine hK.out _ _ ?Szz69 (fun hHeld=>?_)
          case Szz69 =>
           exact hHeld.trans q7
          clear hK K
          try simp only [Act.put,sA,sB,sC]
          refine takL 5 ?_
          refine takL 6 ?_
          refine wpAnyL_ready (rs:=[7,11]) (by kernel_rfl) (by simp) ?_
          refine consL (fun K hK=>?kzz55) ?_
          case kzz55 =>
           go_simp
           refine (FD.out _ hHeld).mono ?_
           rintro e w8 ⟨rfl,q8⟩
           go_wp2_with fail
           refine hK.out _ _ ?Szz55 (fun hHeld=>?_)
           case Szz55 =>
            exact hHeld.trans q8
           clear hK K
           try simp only [Act.put,sA,sB,sC]
           refine takL 8 ?_
           refine takL 9 ?_
           refine wpAnyL_ready (rs:=[10,11]) (by kernel_rfl) (by simp) ?_
           refine consL (fun K hK=>?kzz44) ?_
           case kzz44 =>
            go_simp
            refine hK.out _ _ ?Szz44 (fun hHeld=>?_)
            case Szz44 =>
             exact hHeld
            clear hK K
            try simp only [Act.put,sA,sB,sC]
            refine oneL 11 (fun K hK=>?_)
            go_simp
            have BX:=Lib.hid (Bx.new w8 [.string ⟨#[]⟩,.string ⟨#[]⟩,.string ⟨#[]⟩] 76)
            have hnb:W6.heap.size≤w8.heap.size:=hHeld.size
            have qa:=(Q.refl w8).alloc (.cells #[.string ⟨#[]⟩,.string ⟨#[]⟩,.string ⟨#[]⟩] 76)
            have BX:Hid (Bx (w8.alloc (.cells #[.string ⟨#[]⟩,.string ⟨#[]⟩,.string ⟨#[]⟩] 76)) w8.heap.size [.string ⟨#[]⟩,.string ⟨#[]⟩,.string ⟨#[]⟩]):=Lib.hid BX.out
            generalize w8.alloc (.cells #[.string ⟨#[]⟩,.string ⟨#[]⟩,.string ⟨#[]⟩] 76)=Y0 at BX qa ⊢
            generalize hnbe:w8.heap.size=nb at BX hnb ⊢
            have hnw:=Lib.hid (Nat.le_of_eq hnbe)
            clear hnbe
            refine hK.out _ _ ?Szz37 (fun hHeld=>?_)
            case Szz37 =>
             exact hHeld.trans qa
            clear hK K
            try simp only [Act.put,sA,sB,sC]
            refine oneK (fun K hK=>?_)
            have HZ:=Lib.hid hHeld
            obtain ⟨⟨t0,t1,t2⟩,u0,u1,u2⟩:=BX.out.get3
            go_simp
            refine hK.out _ _ ?_
            clear hK K
            try simp only [Act.put,sA,sB,sC]
            refine takH 13 ?_
            refine wpAnyH_done (by kernel_rfl) ?_ _
            go_wp2_with fail
            go_meet
            exact ⟨rfl,((HZ.out.setCell (p:=⟨nb,0,none⟩) hnb _).setCell (p:=⟨nb,1,none⟩) hnb _).setCell (p:=⟨nb,2,none⟩) hnb _⟩
           refine consL (fun K hK=>?_) AllReadyL.nil
           go_simp
           have BX:=Lib.hid (Bx.new w8 [.string ⟨#[]⟩,.string ⟨#[]⟩,.string ⟨#[]⟩] 76)
           have hnb:W6.heap.size≤w8.heap.size:=hHeld.size
           have qa:=(Q.refl w8).alloc (.cells #[.string ⟨#[]⟩,.string ⟨#[]⟩,.string ⟨#[]⟩] 76)
           have BX:Hid (Bx (w8.alloc (.cells #[.string ⟨#[]⟩,.string ⟨#[]⟩,.string ⟨#[]⟩] 76)) w8.heap.size [.string ⟨#[]⟩,.string ⟨#[]⟩,.string ⟨#[]⟩]):=Lib.hid BX.out
           generalize w8.alloc (.cells #[.string ⟨#[]⟩,.string ⟨#[]⟩,.string ⟨#[]⟩] 76)=Y1 at BX qa ⊢
           generalize hnbe:w8.heap.size=nb at BX hnb ⊢
           have hnw:=Lib.hid (Nat.le_of_eq hnbe)
           clear hnbe
           refine hK.out _ _ ?Szz45 (fun hHeld=>?_)
           case Szz45 =>
            exact hHeld.trans qa
           clear hK K
           try simp only [Act.put,sA,sB,sC]
           refine wpAnyL_ready (rs:=[10,12]) (by kernel_rfl) (by simp) ?_
           refine consL (fun K hK=>?kzz42) ?_
           case kzz42 =>
            go_simp
            refine hK.out _ _ ?Szz42 (fun hHeld=>?_)
            case Szz42 =>
             exact hHeld
            clear hK K
            try simp only [Act.put,sA,sB,sC]
            refine oneK (fun K hK=>?_)
            have HZ:=Lib.hid hHeld
            obtain ⟨⟨t0,t1,t2⟩,u0,u1,u2⟩:=BX.out.get3
            go_simp
            refine hK.out _ _ ?_
            clear hK K
            try simp only [Act.put,sA,sB,sC]
            refine takH 13 ?_
            refine wpAnyH_done (by kernel_rfl) ?_ _
            go_wp2_with fail
            go_meet
            exact ⟨rfl,((HZ.out.setCell (p:=⟨nb,0,none⟩) hnb _).setCell (p:=⟨nb,1,none⟩) hnb _).setCell (p:=⟨nb,2,none⟩) hnb _⟩
           refine consK (fun K hK=>?_) AllReadyL.nil
           have HZ:=Lib.hid hHeld
           obtain ⟨⟨t0,t1,t2⟩,u0,u1,u2⟩:=BX.out.get3
           go_simp
           refine hK.out _ _ ?_
           clear hK K
           try simp only [Act.put,sA,sB,sC]
           refine takH 10 ?_
           refine takH 13 ?_
           refine wpAnyH_done (by kernel_rfl) ?_ _
           go_wp2_with fail
           go_meet
           exact ⟨rfl,((HZ.out.setCell (p:=⟨nb,0,none⟩) hnb _).setCell (p:=⟨nb,1,none⟩) hnb _).setCell (p:=⟨nb,2,none⟩) hnb _⟩
          refine consL (fun K hK=>?_) AllReadyL.nil
          go_simp
          have BX:=Lib.hid (Bx.new w7 [.string ⟨#[]⟩,.string ⟨#[]⟩,.string ⟨#[]⟩] 76)
          have hnb:W6.heap.size≤w7.heap.size:=hHeld.size
          have qa:=(Q.refl w7).alloc (.cells #[.string ⟨#[]⟩,.string ⟨#[]⟩,.string ⟨#[]⟩] 76)
          have BX:Hid (Bx (w7.alloc (.cells #[.string ⟨#[]⟩,.string ⟨#[]⟩,.string ⟨#[]⟩] 76)) w7.heap.size [.string ⟨#[]⟩,.string ⟨#[]⟩,.string ⟨#[]⟩]):=Lib.hid BX.out
          generalize w7.alloc (.cells #[.string ⟨#[]⟩,.string ⟨#[]⟩,.string ⟨#[]⟩] 76)=Y2 at BX qa ⊢
          generalize hnbe:w7.heap.size=nb at BX hnb ⊢
          have hnw:=Lib.hid (Nat.le_of_eq hnbe)
          clear hnbe
          refine hK.out _ _ ?Szz56 (fun hHeld=>?_)
          case Szz56 =>
           exact hHeld.trans qa
          clear hK K
          try simp only [Act.put,sA,sB,sC]
          refine oneL 7 (fun K hK=>?_)
          go_simp
          refine (FD.out _ hHeld).mono ?_
          rintro e w8 ⟨rfl,q8⟩
          have BX:=Lib.hid (BX.out.q q8)
          go_wp2_with fail
          refine hK.out _ _ ?Szz54 (fun hHeld=>?_)
          case Szz54 =>
           exact hHeld.trans q8
          clear hK K
          try simp only [Act.put,sA,sB,sC]
          refine takL 8 ?_
          refine takL 9 ?_
          refine wpAnyL_ready (rs:=[10,12]) (by kernel_rfl) (by simp) ?_
          refine consL (fun K hK=>?kzz52) ?_
          case kzz52 =>
           go_simp
           refine hK.out _ _ ?Szz52 (fun hHeld=>?_)
           case Szz52 =>
            exact hHeld
           clear hK K
           try simp only [Act.put,sA,sB,sC]
           refine oneK (fun K hK=>?_)
           have HZ:=Lib.hid hHeld
           obtain ⟨⟨t0,t1,t2⟩,u0,u1,u2⟩:=BX.out.get3
           go_simp
           refine hK.out _ _ ?_
           clear hK K
           try simp only [Act.put,sA,sB,sC]
           refine takH 13 ?_
           refine wpAnyH_done (by kernel_rfl) ?_ _
           go_wp2_with fail
           go_meet
           exact ⟨rfl,((HZ.out.setCell (p:=⟨nb,0,none⟩) hnb _).setCell (p:=⟨nb,1,none⟩) hnb _).setCell (p:=⟨nb,2,none⟩) hnb _⟩
          refine consK (fun K hK=>?_) AllReadyL.nil
          have HZ:=Lib.hid hHeld
          obtain ⟨⟨t0,t1,t2⟩,u0,u1,u2⟩:=BX.out.get3
          go_simp
          refine hK.out _ _ ?_
          clear hK K
          try simp only [Act.put,sA,sB,sC]
          refine takH 10 ?_
          refine takH 13 ?_
          refine wpAnyH_done (by kernel_rfl) ?_ _
          go_wp2_with fail
          go_meet
          exact ⟨rfl,((HZ.out.setCell (p:=⟨nb,0,none⟩) hnb _).setCell (p:=⟨nb,1,none⟩) hnb _).setCell (p:=⟨nb,2,none⟩) hnb _⟩
         refine consL (fun K hK=>?_) AllReadyL.nil
         go_simp
         have BX:=Lib.hid (Bx.new D0 [.string ⟨#[]⟩,.string ⟨#[]⟩,.string ⟨#[]⟩] 76)
         have hnb:W6.heap.size≤D0.heap.size:=hHeld.size
         have qa:=(Q.refl D0).alloc (.cells #[.string ⟨#[]⟩,.string ⟨#[]⟩,.string ⟨#[]⟩] 76)
         have BX:Hid (Bx (D0.alloc (.cells #[.string ⟨#[]⟩,.string ⟨#[]⟩,.string ⟨#[]⟩] 76)) D0.heap.size [.string ⟨#[]⟩,.string ⟨#[]⟩,.string ⟨#[]⟩]):=Lib.hid BX.out
         generalize D0.alloc (.cells #[.string ⟨#[]⟩,.string ⟨#[]⟩,.string ⟨#[]⟩] 76)=Y3 at BX qa ⊢
         generalize hnbe:D0.heap.size=nb at BX hnb ⊢
         have hnw:=Lib.hid (Nat.le_of_eq hnbe)
         clear hnbe
         refine hK.out _ _ ?Szz70 (fun hHeld=>?_)
         case Szz70 =>
          exact hHeld.trans qa
         clear hK K
         try simp only [Act.put,sA,sB,sC]
         refine oneL 4 (fun K hK=>?_)
         go_simp
         refine (FR.out _).mono ?_
         rintro e w7 ⟨rfl,q7⟩
         have BX:=Lib.hid (BX.out.q q7)
         go_wp2_with fail
         refine hK.out _ _ ?Szz68 (fun hHeld=>?_)
         case Szz68 =>
          exact hHeld.trans q7
         clear hK K
         try simp only [Act.put,sA,sB,sC]
         refine takL 5 ?_
         refine takL 6 ?_
         refine oneL 7 (fun K hK=>?_)
         go_simp
         refine (FD.out _ hHeld).mono ?_
         rintro e w8 ⟨rfl,q8⟩
         have BX:=Lib.hid (BX.out.q q8)
         go_wp2_with fail
         refine hK.out _ _ ?Szz67 (fun hHeld=>?_)
         case Szz67 =>
          exact hHeld.trans q8
         clear hK K
         try simp only [Act.put,sA,sB,sC]
         refine takL 8 ?_
         refine takL 9 ?_
         refine wpAnyL_ready (rs:=[10,12]) (by kernel_rfl) (by simp) ?_
         refine consL (fun K hK=>?kzz65) ?_
         case kzz65 =>
          go_simp
          refine hK.out _ _ ?Szz65 (fun hHeld=>?_)
          case Szz65 =>
           exact hHeld
          clear hK K
          try simp only [Act.put,sA,sB,sC]
          refine oneK (fun K hK=>?_)
          have HZ:=Lib.hid hHeld
          obtain ⟨⟨t0,t1,t2⟩,u0,u1,u2⟩:=BX.out.get3
          go_simp
          refine hK.out _ _ ?_
          clear hK K
          try simp only [Act.put,sA,sB,sC]
          refine takH 13 ?_
          refine wpAnyH_done (by kernel_rfl) ?_ _
          go_wp2_with fail
          go_meet
          exact ⟨rfl,((HZ.out.setCell (p:=⟨nb,0,none⟩) hnb _).setCell (p:=⟨nb,1,none⟩) hnb _).setCell (p:=⟨nb,2,none⟩) hnb _⟩
         refine consK (fun K hK=>?_) AllReadyL.nil
         have HZ:=Lib.hid hHeld
         obtain ⟨⟨t0,t1,t2⟩,u0,u1,u2⟩:=BX.out.get3
         go_simp
         refine hK.out _ _ ?_
         clear hK K
         try simp only [Act.put,sA,sB,sC]
         refine takH 10 ?_
         refine takH 13 ?_
         refine wpAnyH_done (by kernel_rfl) ?_ _
         go_wp2_with fail
         go_meet
         exact ⟨rfl,((HZ.out.setCell (p:=⟨nb,0,none⟩) hnb _).setCell (p:=⟨nb,1,none⟩) hnb _).setCell (p:=⟨nb,2,none⟩) hnb _⟩
        case rest =>
         obtain ⟨rfl,qc⟩:=hcut
         have Q7:=Lib.hid qc
         clear qc
         generalize wc=W7 at Q7 ⊢
         have U7:=Lib.hid (U6.out.q Q7.out)
         have Y7:=Lib.hid (Y6.out.q Q7.out)
         clear e0 e1 e2 e3 e4 e5 e6 e7 e8 e9 yc0 yc1 yc2 yc3 yc4 yc5 yc6 yc7 yc8 yc9
         obtain ⟨e0,e1,e2,e3,e4,e5,e6,e7,e8,e9⟩:=kget U7.out.box
         obtain ⟨yc0,yc1,yc2,yc3,yc4,yc5,yc6,yc7,yc8,yc9⟩:=kget Y7.out.box
         go_upto_region 14 with (fail)
         go_cut [15,16] from 43 to 124 (fun s15 s16 wx=>s16=.bool false∧Q W7 wx)
         case first =>
          refine wp_region_heldL 10 (Q W7) (by kernel_rfl) ?szz71 (fun hHeld=>?rzz71)
          case szz71 =>
           exact (Q.refl W7).drew
          generalize hgen:W7.drew=D0 at hHeld ⊢
          clear hgen
          refine takL 0 ?_
          refine takeL 1 ?v73 ?y73 ?_
          case y73=>intro w hSw;have z0:=box_ hSw yc0;have z1:=box_ hSw yc1;have z2:=box_ hSw yc2;have z3:=box_ hSw yc3;clear hSw;go_simp;try with_reducible rfl
          refine takL 2 ?_
          refine takeL 3 ?v75 ?y75 ?_
          case y75=>intro w hSw;have z6:=box_ hSw e6;clear hSw;go_simp;try with_reducible rfl
          refine wpAnyL_ready (rs:=[4,9]) (by kernel_rfl) (by simp) ?_
          refine consL (fun K hK=>?kzz110) ?_
          case kzz110 =>
           go_simp
           refine (FS.out _ (Q7.out.trans hHeld)).mono ?_
           rintro e w9 ⟨rfl,q9⟩
           go_wp2_with fail
           refine hK.out _ _ ?Szz110 (fun hHeld=>?_)
           case Szz110 =>
            exact hHeld.trans q9
           clear hK K
           try simp only [Act.put,sA,sB,sC]
           refine wpAnyL_ready (rs:=[5,9]) (by kernel_rfl) (by simp) ?_
           refine consL (fun K hK=>?kzz98) ?_
           case kzz98 =>
            go_simp
            refine (FE.out _ (Q7.out.trans hHeld)).mono ?_
            rintro e v8 ⟨rfl,q8⟩
            go_wp2_with fail
            refine hK.out _ _ ?Szz98 (fun hHeld=>?_)
            case Szz98 =>
             exact hHeld.trans q8
            clear hK K
            try simp only [Act.put,sA,sB,sC]
            refine takL 6 ?_
            refine takL 7 ?_
            refine wpAnyL_ready (rs:=[8,9]) (by kernel_rfl) (by simp) ?_
            refine consL (fun K hK=>?kzz87) ?_
            case kzz87 =>
             go_simp
             refine hK.out _ _ ?Szz87 (fun hHeld=>?_)
             case Szz87 =>
              exact hHeld
             clear hK K
             try simp only [Act.put,sA,sB,sC]
             refine oneL 9 (fun K hK=>?_)
             go_simp
             have BX:=Lib.hid (Bx.new v8 [.string ⟨#[]⟩,.string ⟨#[]⟩,.string ⟨#[]⟩] 76)
             have hnb:W7.heap.size≤v8.heap.size:=hHeld.size
             have qa:=(Q.refl v8).alloc (.cells #[.string ⟨#[]⟩,.string ⟨#[]⟩,.string ⟨#[]⟩] 76)
             have BX:Hid (Bx (v8.alloc (.cells #[.string ⟨#[]⟩,.string ⟨#[]⟩,.string ⟨#[]⟩] 76)) v8.heap.size [.string ⟨#[]⟩,.string ⟨#[]⟩,.string ⟨#[]⟩]):=Lib.hid BX.out
             generalize v8.alloc (.cells #[.string ⟨#[]⟩,.string ⟨#[]⟩,.string ⟨#[]⟩] 76)=Y0 at BX qa ⊢
             generalize hnbe:v8.heap.size=nb at BX hnb ⊢
             have hnw:=Lib.hid (Nat.le_of_eq hnbe)
             clear hnbe
             refine hK.out _ _ ?Szz80 (fun hHeld=>?_)
             case Szz80 =>
              exact hHeld.trans qa
             clear hK K
             try simp only [Act.put,sA,sB,sC]
             refine oneK (fun K hK=>?_)
             have HZ:=Lib.hid hHeld
             obtain ⟨⟨t0,t1,t2⟩,u0,u1,u2⟩:=BX.out.get3
             go_simp
             refine hK.out _ _ ?_
             clear hK K
             try simp only [Act.put,sA,sB,sC]
             refine takH 11 ?_
             refine wpAnyH_done (by kernel_rfl) ?_ _
             go_wp2_with fail
             go_meet
             exact ⟨rfl,((HZ.out.setCell (p:=⟨nb,0,none⟩) hnb _).setCell (p:=⟨nb,1,none⟩) hnb _).setCell (p:=⟨nb,2,none⟩) hnb _⟩
            refine consL (fun K hK=>?_) AllReadyL.nil
            go_simp
            have BX:=Lib.hid (Bx.new v8 [.string ⟨#[]⟩,.string ⟨#[]⟩,.string ⟨#[]⟩] 76)
            have hnb:W7.heap.size≤v8.heap.size:=hHeld.size
            have qa:=(Q.refl v8).alloc (.cells #[.string ⟨#[]⟩,.string ⟨#[]⟩,.string ⟨#[]⟩] 76)
            have BX:Hid (Bx (v8.alloc (.cells #[.string ⟨#[]⟩,.string ⟨#[]⟩,.string ⟨#[]⟩] 76)) v8.heap.size [.string ⟨#[]⟩,.string ⟨#[]⟩,.string ⟨#[]⟩]):=Lib.hid BX.out
            generalize v8.alloc (.cells #[.string ⟨#[]⟩,.string ⟨#[]⟩,.string ⟨#[]⟩] 76)=Y1 at BX qa ⊢
            generalize hnbe:v8.heap.size=nb at BX hnb ⊢
            have hnw:=Lib.hid (Nat.le_of_eq hnbe)
            clear hnbe
            refine hK.out _ _ ?Szz88 (fun hHeld=>?_)
            case Szz88 =>
             exact hHeld.trans qa
            clear hK K
            try simp only [Act.put,sA,sB,sC]
            refine wpAnyL_ready (rs:=[8,10]) (by kernel_rfl) (by simp) ?_
            refine consL (fun K hK=>?kzz85) ?_
            case kzz85 =>
             go_simp
             refine hK.out _ _ ?Szz85 (fun hHeld=>?_)
             case Szz85 =>
              exact hHeld
             clear hK K
             try simp only [Act.put,sA,sB,sC]
             refine oneK (fun K hK=>?_)
             have HZ:=Lib.hid hHeld
             obtain ⟨⟨t0,t1,t2⟩,u0,u1,u2⟩:=BX.out.get3
             go_simp
             refine hK.out _ _ ?_
             clear hK K
             try simp only [Act.put,sA,sB,sC]
             refine takH 11 ?_
             refine wpAnyH_done (by kernel_rfl) ?_ _
             go_wp2_with fail
             go_meet
             exact ⟨rfl,((HZ.out.setCell (p:=⟨nb,0,none⟩) hnb _).setCell (p:=⟨nb,1,none⟩) hnb _).setCell (p:=⟨nb,2,none⟩) hnb _⟩
            refine consK (fun K hK=>?_) AllReadyL.nil
            have HZ:=Lib.hid hHeld
            obtain ⟨⟨t0,t1,t2⟩,u0,u1,u2⟩:=BX.out.get3
            go_simp
            refine hK.out _ _ ?_
            clear hK K
            try simp only [Act.put,sA,sB,sC]
            refine takH 8 ?_
            refine takH 11 ?_
            refine wpAnyH_done (by kernel_rfl) ?_ _
            go_wp2_with fail
            go_meet
            exact ⟨rfl,((HZ.out.setCell (p:=⟨nb,0,none⟩) hnb _).setCell (p:=⟨nb,1,none⟩) hnb _).setCell (p:=⟨nb,2,none⟩) hnb _⟩
           refine consL (fun K hK=>?_) AllReadyL.nil
           go_simp
           have BX:=Lib.hid (Bx.new w9 [.string ⟨#[]⟩,.string ⟨#[]⟩,.string ⟨#[]⟩] 76)
           have hnb:W7.heap.size≤w9.heap.size:=hHeld.size
           have qa:=(Q.refl w9).alloc (.cells #[.string ⟨#[]⟩,.string ⟨#[]⟩,.string ⟨#[]⟩] 76)
           have BX:Hid (Bx (w9.alloc (.cells #[.string ⟨#[]⟩,.string ⟨#[]⟩,.string ⟨#[]⟩] 76)) w9.heap.size [.string ⟨#[]⟩,.string ⟨#[]⟩,.string ⟨#[]⟩]):=Lib.hid BX.out
           generalize w9.alloc (.cells #[.string ⟨#[]⟩,.string ⟨#[]⟩,.string ⟨#[]⟩] 76)=Y2 at BX qa ⊢
           generalize hnbe:w9.heap.size=nb at BX hnb ⊢
           have hnw:=Lib.hid (Nat.le_of_eq hnbe)
           clear hnbe
           refine hK.out _ _ ?Szz99 (fun hHeld=>?_)
           case Szz99 =>
            exact hHeld.trans qa
           clear hK K
           try simp only [Act.put,sA,sB,sC]
           refine oneL 5 (fun K hK=>?_)
           go_simp
           refine (FE.out _ (Q7.out.trans hHeld)).mono ?_
           rintro e v8 ⟨rfl,q8⟩
           have BX:=Lib.hid (BX.out.q q8)
           go_wp2_with fail
           refine hK.out _ _ ?Szz97 (fun hHeld=>?_)
           case Szz97 =>
            exact hHeld.trans q8
           clear hK K
           try simp only [Act.put,sA,sB,sC]
           refine takL 6 ?_
           refine takL 7 ?_
           refine wpAnyL_ready (rs:=[8,10]) (by kernel_rfl) (by simp) ?_
           refine consL (fun K hK=>?kzz95) ?_
           case kzz95 =>
            go_simp
            refine hK.out _ _ ?Szz95 (fun hHeld=>?_)
            case Szz95 =>
             exact hHeld
            clear hK K
            try simp only [Act.put,sA,sB,sC]
            refine oneK (fun K hK=>?_)
            have HZ:=Lib.hid hHeld
            obtain ⟨⟨t0,t1,t2⟩,u0,u1,u2⟩:=BX.out.get3
            go_simp
            refine hK.out _ _ ?_
            clear hK K
            try simp only [Act.put,sA,sB,sC]
            refine takH 11 ?_
            refine wpAnyH_done (by kernel_rfl) ?_ _
            go_wp2_with fail
            go_meet
            exact ⟨rfl,((HZ.out.setCell (p:=⟨nb,0,none⟩) hnb _).setCell (p:=⟨nb,1,none⟩) hnb _).setCell (p:=⟨nb,2,none⟩) hnb _⟩
           refine consK (fun K hK=>?_) AllReadyL.nil
           have HZ:=Lib.hid hHeld
           obtain ⟨⟨t0,t1,t2⟩,u0,u1,u2⟩:=BX.out.get3
           go_simp
           refine hK.out _ _ ?_
           clear hK K
           try simp only [Act.put,sA,sB,sC]
           refine takH 8 ?_
           refine takH 11 ?_
           refine wpAnyH_done (by kernel_rfl) ?_ _
           go_wp2_with fail
           go_meet
           exact ⟨rfl,((HZ.out.setCell (p:=⟨nb,0,none⟩) hnb _).setCell (p:=⟨nb,1,none⟩) hnb _).setCell (p:=⟨nb,2,none⟩) hnb _⟩
          refine consL (fun K hK=>?_) AllReadyL.nil
          go_simp
          have BX:=Lib.hid (Bx.new D0 [.string ⟨#[]⟩,.string ⟨#[]⟩,.string ⟨#[]⟩] 76)
          have hnb:W7.heap.size≤D0.heap.size:=hHeld.size
          have qa:=(Q.refl D0).alloc (.cells #[.string ⟨#[]⟩,.string ⟨#[]⟩,.string ⟨#[]⟩] 76)
          have BX:Hid (Bx (D0.alloc (.cells #[.string ⟨#[]⟩,.string ⟨#[]⟩,.string ⟨#[]⟩] 76)) D0.heap.size [.string ⟨#[]⟩,.string ⟨#[]⟩,.string ⟨#[]⟩]):=Lib.hid BX.out
          generalize D0.alloc (.cells #[.string ⟨#[]⟩,.string ⟨#[]⟩,.string ⟨#[]⟩] 76)=Y3 at BX qa ⊢
          generalize hnbe:D0.heap.size=nb at BX hnb ⊢
          have hnw:=Lib.hid (Nat.le_of_eq hnbe)
          clear hnbe
          refine hK.out _ _ ?Szz111 (fun hHeld=>?_)
          case Szz111 =>
           exact hHeld.trans qa
          clear hK K
          try simp only [Act.put,sA,sB,sC]
          refine oneL 4 (fun K hK=>?_)
          go_simp
          refine (FS.out _ (Q7.out.trans hHeld)).mono ?_
          rintro e w9 ⟨rfl,q9⟩
          have BX:=Lib.hid (BX.out.q q9)
          go_wp2_with fail
          refine hK.out _ _ ?Szz109 (fun hHeld=>?_)
          case Szz109 =>
           exact hHeld.trans q9
          clear hK K
          try simp only [Act.put,sA,sB,sC]
          refine oneL 5 (fun K hK=>?_)
          go_simp
          refine (FE.out _ (Q7.out.trans hHeld)).mono ?_
          rintro e v8 ⟨rfl,q8⟩
          have BX:=Lib.hid (BX.out.q q8)
          go_wp2_with fail
          refine hK.out _ _ ?Szz108 (fun hHeld=>?_)
          case Szz108 =>
           exact hHeld.trans q8
          clear hK K
          try simp only [Act.put,sA,sB,sC]
          refine takL 6 ?_
          refine takL 7 ?_
          refine wpAnyL_ready (rs:=[8,10]) (by kernel_rfl) (by simp) ?_
          refine consL (fun K hK=>?kzz106) ?_
          case kzz106 =>
           go_simp
           refine hK.out _ _ ?Szz106 (fun hHeld=>?_)
           case Szz106 =>
            exact hHeld
           clear hK K
           try simp only [Act.put,sA,sB,sC]
           refine oneK (fun K hK=>?_)
           have HZ:=Lib.hid hHeld
           obtain ⟨⟨t0,t1,t2⟩,u0,u1,u2⟩:=BX.out.get3
           go_simp
           refine hK.out _ _ ?_
           clear hK K
           try simp only [Act.put,sA,sB,sC]
           refine takH 11 ?_
           refine wpAnyH_done (by kernel_rfl) ?_ _
           go_wp2_with fail
           go_meet
           exact ⟨rfl,((HZ.out.setCell (p:=⟨nb,0,none⟩) hnb _).setCell (p:=⟨nb,1,none⟩) hnb _).setCell (p:=⟨nb,2,none⟩) hnb _⟩
          refine consK (fun K hK=>?_) AllReadyL.nil
          have HZ:=Lib.hid hHeld
          obtain ⟨⟨t0,t1,t2⟩,u0,u1,u2⟩:=BX.out.get3
          go_simp
          refine hK.out _ _ ?_
          clear hK K
          try simp only [Act.put,sA,sB,sC]
          refine takH 8 ?_
          refine takH 11 ?_
          refine wpAnyH_done (by kernel_rfl) ?_ _
          go_wp2_with fail
          go_meet
          exact ⟨rfl,((HZ.out.setCell (p:=⟨nb,0,none⟩) hnb _).setCell (p:=⟨nb,1,none⟩) hnb _).setCell (p:=⟨nb,2,none⟩) hnb _⟩
         case rest =>
          obtain ⟨rfl,qc⟩:=hcut
          have Q8:=Lib.hid qc
          clear qc
          generalize wc=W8 at Q8 ⊢
          have U8:=Lib.hid (U7.out.q Q8.out)
          have Y8:=Lib.hid (Y7.out.q Q8.out)
          have OO:=Lib.hid ((Q6.out.trans Q7.out).trans Q8.out)
          have hgW:w.heap.size≤g:=hg
          have w1:IntKind.i64.wrap (run2+1)=run2+1:=by rw [IntKind.wrap_i64];omega
          have w2:IntKind.i64.wrap (seg2+1)=seg2+1:=by rw [IntKind.wrap_i64];omega
          subst r1 r2 r3
          clear e0 e1 e2 e3 e4 e5 e6 e7 e8 e9 yc0 yc1 yc2 yc3 yc4 yc5 yc6 yc7 yc8 yc9
          obtain ⟨e0,e1,e2,e3,e4,e5,e6,e7,e8,e9⟩:=kget U8.out.box
          obtain ⟨yc0,yc1,yc2,yc3,yc4,yc5,yc6,yc7,yc8,yc9⟩:=kget Y8.out.box
          obtain ⟨fz0,fz1,fz2,fz3,fz4,fz5,fz6,fz7,fz8,fz9⟩:=kfree U8.out.box
          have UU:=Kb.whole U8.out.box Y8.out.is
          have O8:=Q.stk hgW (us10 ⟨A6,n6,c6,B6,bn6,bc6,C6,cn6,cc6⟩ ⟨⟨l3,room3,fuse3,off3⟩,seg2+1,seg2+1,run2+1,s2,down3⟩) OO.out
          dsimp only [us10,stk] at UU O8
          have UU:=Lib.hid UU
          have O8:=Lib.hid O8
          clear U6 U7 Y6 Y7 KC KK FD FE FR FS
          go_upto_region 16 with (fail)
          go_wp2
          go_roundw
          case rel=>exact ⟨j+1,_,_,by omega,by omega,by go_num,UU.out,HQ.out,O8.out⟩
          case measure=>simp [intOf];omega
      · have hb:(ey != 0)=true:=by simpa using h0
        go_upto_region 12 with (fail)
        have KS:=Lib.hid (fun B C B2 C2 bn bc cn cc bn2 bc2 cn2 cc2 W i1 i2 i3 i4=>decide_eq_true (rfl:s2=s2) ▸ refSameS_any B C B2 C2 bn bc cn cc bn2 bc2 cn2 cc2 s2 s2 W i1 i2 i3 i4)
        go_wp2_with fail
        refine (KS.out B5 C5 B6 C6 bn5 bc5 cn5 cc5 bn6 bc6 cn6 cc6 _ U6.out.is.data U6.out.is.toks Y6.out.is.data Y6.out.is.toks).mono ?_
        rintro e w8 ⟨rfl,q8⟩
        have Q8:=Lib.hid (Q6.out.trans q8)
        clear q8
        go_wp2
        go_ret
        exact ⟨by first | rfl | simp,by first | exact Q8.out | exact Q8.out.drew⟩
   · have hexit:¬((j:Int)<(n:Int))∨((j:Int)<(n:Int)∧¬((j:Int)<60)):=by
       by_cases h:j<n
       · exact .inr ⟨by omega,by omega⟩
       · exact .inl (by omega)
     clear hlt
     rcases hexit with hx1 | ⟨hx1,hx2⟩
     all_goals
       go_wp2
       go_ret
       exact ⟨by first | rfl | simp,by first | exact O1.out | exact O1.out.drew⟩
end Go.Proofs.YtajidconlmhjfaaGreatDoor.kvRuns
