/- KvRefOpen: merged. -/
import Derived.Test.YtccoknaaofmbcaaGreatDoorO13
import Derived.Test.YtccoknaaofmbcaaGreatDoorO14
import Derived.Test.YtccoknaaofmbcaaGreatDoorO8
import Derived.Test.YtccoknaaofmbcaaGreatDoorO15
import Derived.Deep.DeepCutAuto
import Derived.Test.YtccoknaaofmbcaaGreatDoorO5
set_option linter.unusedVariables false
set_option linter.unusedSimpArgs false
set_option maxRecDepth 100000
set_option maxHeartbeats 16000000
open Go.Lib (hid)
namespace Go.Proofs.YtccoknaaofmbcaaGreatDoor
section
open Go.RowKit Dkm Prm Km Wm
theorem loadM_keys (nm:ByteArray)(l:List Fil):∀ p∈(Rn.loadM nm l).1,p.key.size≤65536:=by
 unfold Rn.loadM
 split
 · intro p hp;cases hp
 · unfold Rn.take Rn.tk1
   split
   · intro p hp;cases hp
   · unfold Rn.tk2
     split
     · intro p hp;cases hp
     · rename_i h
       simp only[not_or,Bool.not_eq_false] at h
       intro p hp
       exact(Rn.may_big h.2.2 p hp).1
theorem cut_size (k:ByteArray):(Bm.cut k).size≤k.size:=by
 show k.data.toList.tail.toArray.size≤k.size
 have:k.data.toList.length=k.size:=Rn.size_data k
 simp
theorem backL_keys (N:Nat):∀ (l:List Prm.Pr) (s t:Bm.Sta),Bm.backL l s=some t→(∀ p∈l,p.key.size≤N)→(∀ p∈s.data,p.key.size≤N)→(∀ p∈s.toks,p.key.size≤N)→(∀ p∈t.data,p.key.size≤N)∧(∀ p∈t.toks,p.key.size≤N)
 | [],s,t,h,_,h1,h2=>by
   unfold Bm.backL at h
   injection h with h
   subst h
   exact⟨h1,h2⟩
 | p :: l,s,t,h,hl,h1,h2=>by
   unfold Bm.backL at h
   cases hs:Bm.step s p with
   | none=>rw[hs] at h;cases h
   | some u =>
     rw[hs] at h
     have hp:=hl p (by simp)
     have hc:=cut_size p.key
     have hu:(∀ p∈u.data,p.key.size≤N)∧(∀ p∈u.toks,p.key.size≤N):=by
      unfold Bm.step at hs
      split at hs
      · injection hs with hs
        subst hs
        refine⟨fun q hq=>?_,h2⟩
        rcases List.mem_append.1 hq with hq | hq
        · exact h1 q hq
        · simp only[List.mem_singleton] at hq;subst hq;simp only;omega
      · split at hs
        · injection hs with hs
          subst hs
          refine⟨h1,fun q hq=>?_⟩
          rcases List.mem_append.1 hq with hq | hq
          · exact h2 q hq
          · simp only[List.mem_singleton] at hq;subst hq;simp only;omega
        · cases hs
     exact backL_keys N l u t h (fun q hq=>hl q (by simp[hq])) hu.1 hu.2
theorem back_keys {N:Nat}{l:List Prm.Pr}(h:∀ p∈l,p.key.size≤N):(∀ p∈(Bm.back l).1.data,p.key.size≤N)∧(∀ p∈(Bm.back l).1.toks,p.key.size≤N):=by
 unfold Bm.back
 cases hb:Bm.backL l ⟨[],[]⟩ with
 | none=>exact⟨(by intro p hp;cases hp),(by intro p hp;cases hp)⟩
 | some t=>exact backL_keys N l _ t hb h (by intro p hp;cases hp) (by intro p hp;cases hp)
theorem take_wkeys (r:List UInt8):WKeysIn (Bm.take r).1.ws∧(Bm.take r).1.tok.size≤maxLen∧(Bm.take r).1.ws.length≤24:=by
 unfold Bm.take Bm.fin
 split
 · rename_i h
   refine⟨fun q hq=>?_,?_,Bm.may_len h.2.2⟩
   · have:=(Bm.wrong_not ((Bm.may_ok h.2.2).2 q hq)).2.1
     unfold maxLen;omega
   · have:=(Bm.may_tok h.2.2).2
     unfold maxLen;simp only;omega
 · exact⟨(by intro q hq;cases hq),(by unfold maxLen;show 0≤_;omega),Nat.zero_le _⟩
theorem doo_keys {s:Bm.Sta}{b:Bm.Bt}(h1:KeysIn s.data)(h2:KeysIn s.toks)(h3:WKeysIn b.ws)(h4:b.tok.size≤maxLen):KeysIn (Bm.doo s b).1.data∧KeysIn (Bm.doo s b).1.toks:=by
 unfold Bm.doo
 split
 · exact⟨h1,h2⟩
 · split
   · exact⟨h1,h2⟩
   · exact⟨apply_keys h1 h3,put_keys h2 h4⟩
theorem OwnS.two {w:World}{base:Nat}{A:Option Addr}{n c:Nat}{l:List (List UInt8)}(h:OwnS w base A n c l){g:Nat}(hg:g<base)(x y:Value):OwnS ((w.setCell ⟨g,0,none⟩ x).setCell ⟨g,1,none⟩ y) base A n c l:=
 (h.setCell (p:=⟨g,0,none⟩) hg x).setCell (p:=⟨g,1,none⟩) hg y
theorem refKOpen_any (A:Option Addr)(n c:Nat)(d:Dk)(w:World)(hd:Dsk w A n c d.fs)(hB:Bnd 2097152 d) :
  Calls Tryz.prog 8 #[dkv A n c d.room d.fuse d.off] w (RetK w (openM d).1 [.int .i64 (openM d).2]):=by
 have KR0:=hid (fun frm (h:segOk frm) W (hd:Dsk W A n c d.fs)=>refRec_good frm A n c d W hd hB h)
 have HL0:=hid (fun frm=>And.intro (recM_tot hB.sum frm).1 (And.intro (recM_tot hB.sum frm).2 (recM_le d frm)))
 have HR:=hid (fun W (h:Files W A n d.fs)=>ref_read mB A n c d.room d.fuse d.off d.fs W h hd.max (mx21 hB))
 have KL0:=hid (fun nm W (hd:Dsk W A n c d.fs)=>refLoad_any nm A n c d W hd (fun f hf=>Nat.le_trans (hB.sum f hf) (by omega)))
 have HC0:=hid (fun nm=>loadM_count nm d.fs hB.sum)
 have HY0:=hid (fun nm=>loadM_keys nm d.fs)
 have hz:(redd mB d.fs).1.size≤maxLen:=redd_size mB d.fs (mx21 hB)
 have hrng:=begM_rng d.fs
 have hbeg:begM d.fs=if (redd mB d.fs).2≠0 then (1,0,0) else tman (redd mB d.fs).1.data.toList:=rfl
 have hO:openM d=opnA d (begM d.fs):=rfl
 have hA:∀ x,opnA d x=if x.2.2≠0 then (ks0,3) else opnB d x.1 x.2.1 (loadS d.fs x.2.1):=fun _=>rfl
 have hLS:∀ k,loadS d.fs k=if k=0 then (⟨[],[]⟩,0) else if (Rn.loadM (rnamB k) d.fs).2≠0 then (⟨[],[]⟩,3) else if (Bm.back (Rn.loadM (rnamB k) d.fs).1).2≠0 then (⟨[],[]⟩,3) else ((Bm.back (Rn.loadM (rnamB k) d.fs).1).1,0):=fun _=>rfl
 have hBB:∀ f k s,opnB d f k s=if s.2≠0 then (ks0,3) else opnC f k s.1 (recM d f):=fun _ _ _=>rfl
 generalize redd mB d.fs=rd at HR hz hbeg
 obtain⟨ms,me⟩:=rd
 simp only at HR hz hbeg
 have KT:=hid (fun W=>refTakeMan_any ms W hz)
 generalize begM d.fs=bg at hrng hbeg hO
 generalize openM d=R at hO ⊢
 have HX:=hid hO
 have HA:=hid hA
 have HLS:=hid hLS
 have HBB:=hid hBB
 have X0:Hid (Po w A n c d ((w.alloc (.cells #[.slice A n c,.int .i64 d.room,.int .i64 d.fuse,.bool d.off] 24)).alloc (.cells #[.slice none 0 0,.int .i64 0,.int .i64 0,.bool false,.int .i64 0,.int .i64 0,.int .i64 0,.slice none 0 0,.slice none 0 0,.bool false] 32))):=hid (Po.new hd)
 clear hO hA hLS hBB hd hB hz
 by_cases hme:me=0
 · subst hme
   rw[if_neg (by simp)] at hbeg
   rw[←hbeg] at KT
   obtain⟨frm,n0,be⟩:=bg
   simp only at KT hrng
   have HX2:=hid (HX.out.trans (HA.out _))
   clear hbeg HX HA
   by_cases hbe:be=0
   · subst hbe
     have hfr:1≤frm∧frm≤1000000∧0≤n0∧n0≤1000000:=by
      rcases hrng with h | h
      · exact⟨h.2.1,h.2.2.1,h.2.2.2.1,h.2.2.2.2⟩
      · simp at h
     have HFR:=hid hfr
     have HX3:=hid (show R=opnB d frm n0 (loadS d.fs n0) from HX2.out.trans (if_neg (by simp)))
     have HL:=hid (HL0.out frm)
     have KR:=hid (KR0.out frm ⟨hfr.1,hfr.2.1⟩)
     have HB3:=hid (HBB.out frm n0)
     clear hrng HX2 HL0 KR0 HBB hfr
     generalize recM d frm=rc at HL KR HB3
     obtain⟨⟨l2,room2,fuse2,off2⟩,rs,last,er⟩:=rc
     obtain⟨l,room,fuse,off⟩:=d
     simp only at HL KR HB3 HX3 X0
     by_cases hn0:n0=0
     · subst hn0
       have hls:=HLS.out 0
       rw[if_pos rfl] at hls
       have HRR:=hid (show R=opnC frm 0 ⟨[],[]⟩ (⟨l2,room2,fuse2,off2⟩,rs,last,er) from HX3.out.trans (by rw[hls];exact(HB3.out _).trans (if_neg (by simp))))
       have HK:Hid ((([]:List Prm.Pr).length≤1073741824)∧(([]:List Prm.Pr).length≤1073741824)∧KeysIn []∧KeysIn []):=hid ⟨Nat.zero_le _,Nat.zero_le _,(by intro p hp;cases hp),(by intro p hp;cases hp)⟩
       obtain⟨s,hs⟩:∃ s:Bm.Sta,s=⟨[],[]⟩:=⟨_,rfl⟩
       rw[←hs] at HRR
       have HK:Hid (s.data.length≤1073741824∧s.toks.length≤1073741824∧KeysIn s.data∧KeysIn s.toks):=hid (by rw[hs];exact HK.out)
       have HSN:=hid hs
       clear hls HX3 HB3 HLS KL0 HC0 HY0 hs
       go_enter Tryz.func8,Tryz.ntmps8
       go_upto_region 1 with (fail)
       generalize ((w.alloc (.cells #[.slice A n c,.int .i64 room,.int .i64 fuse,.bool off] 24)).alloc (.cells #[.slice none 0 0,.int .i64 0,.int .i64 0,.bool false,.int .i64 0,.int .i64 0,.int .i64 0,.slice none 0 0,.slice none 0 0,.bool false] 32))=W at X0 ⊢
       obtain⟨⟨e0,e1,e2,e3⟩,f0,f1,f2,f3⟩:=X0.out.db.get4
       go_wp2_with fail
       refine(HR.out _ X0.out.dsk.files).mono ?_
       rintro e w1 ⟨rfl,q1⟩
       clear e0 e1 e2 e3 f0 f1 f2 f3
       go_wp2_with fail
       refine(KT.out _).mono ?_
       rintro e w2 ⟨rfl,q2⟩
       have X1:=hid ((X0.out.step q1).step q2)
       clear q1 q2 X0 KT HR
       have X2:=hid (Ps.new (s:=⟨[],[]⟩) X1.out (In_.none_ pairK _) (In_.none_ pairK _))
       go_upto_region 11 with (fail)
       generalize w2.alloc (.cells #[.slice none 0 0,.slice none 0 0] 30)=W2 at X2 ⊢
       generalize w2.heap.size=g at X2 ⊢
       have X2:=hid (show Ps w A n c ⟨l,room,fuse,off⟩ g none 0 0 none 0 0 s W2 by rw[HSN.out];exact X2.out)
       clear X1 HSN
       obtain⟨⟨e0,e1,e2,e3⟩,f0,f1,f2,f3⟩:=X2.out.po.db.get4
       go_wp2_with fail
       refine(KR.out _ X2.out.po.dsk).mono ?_
       rintro e w3 ⟨A2,n2,c2,L,ln,lc,rfl,hd2,hf2,hl2,q3⟩
       have HG:=hid (show g+1≤w3.heap.size from Nat.lt_of_lt_of_le X2.out.sb.lt q3.size)
       have KB:=hid (Bx.new w3 [.slice A2 n2 c2,.int .i64 room2,.int .i64 fuse2,.bool off2] 24)
       have KB:Hid (Bx (w3.alloc (.cells #[.slice A2 n2 c2,.int .i64 room2,.int .i64 fuse2,.bool off2] 24)) w3.heap.size [.slice A2 n2 c2,.int .i64 room2,.int .i64 fuse2,.bool off2]):=KB
       have V:=hid (X2.out.step (q3.alloc (.cells #[.slice A2 n2 c2,.int .i64 room2,.int .i64 fuse2,.bool off2] 24)))
       have HD2:=hid (Dsk.q hd2 ((Q.refl w3).alloc (.cells #[.slice A2 n2 c2,.int .i64 room2,.int .i64 fuse2,.bool off2] 24)))
       have HS2:=hid ((hl2.lower (b2:=g+1) (X2.out.sb.lt)).q ((Q.refl w3).alloc (.cells #[.slice A2 n2 c2,.int .i64 room2,.int .i64 fuse2,.bool off2] 24)))
       clear q3 X2 hd2 hf2 hl2 e0 e1 e2 e3 f0 f1 f2 f3 KR
       go_upto_region 20 with (fail)
       generalize w3.alloc (.cells #[.slice A2 n2 c2,.int .i64 room2,.int .i64 fuse2,.bool off2] 24)=W3 at V KB HD2 HS2 ⊢
       generalize w3.heap.size=gk at KB HG ⊢
       by_cases her:er=0
       · subst her
         have HRR:=hid (show R=endM frm 0 (⟨l2,room2,fuse2,off2⟩,rs,last,0) (repM s rs) from HRR.out.trans (if_neg (by simp)))
         have HNl:=hid HS2.out.len
         have hlnb:ln≤1099511627776:=by have:=HNl.out;have:=HL.out.1;omega
         go_wp2
         go_loopw [20] (fun i wr=>∃ (j:Nat) (t:Bm.Sta) (B:Option Addr) (bn bc:Nat) (C:Option Addr) (cn cc:Nat),j≤ln∧i=.int .i64 j∧Ps w A n c ⟨l,room,fuse,off⟩ g B bn bc C cn cc t wr∧Bx wr gk [.slice A2 n2 c2,.int .i64 room2,.int .i64 fuse2,.bool off2]∧Dsk wr A2 n2 c2 l2∧OwnS wr (g+1) L ln lc rs∧repM s rs=repM t (rs.drop j)∧t.data.length+wsum (rs.drop j)≤s.data.length+wsum rs∧t.toks.length≤s.toks.length+j∧KeysIn t.data∧KeysIn t.toks) (fun i _=>ln - (intOf i).toNat)
         case atStart=>exact⟨0,s,_,_,_,_,_,_,Nat.zero_le _,rfl,V.out,KB.out,HD2.out,HS2.out,rfl,Nat.le_refl _,Nat.le_refl _,HK.out.2.2.1,HK.out.2.2.2⟩
         case round =>
          obtain⟨j,t,B1,n1,c1,C1,m1,d1,hj,rfl,v1,kb1,hd1,hs1,hM,hl1,hl2,hk1,hk2⟩:=hrel
          have V1:=hid v1
          have KB1:=hid kb1
          have HD1:=hid hd1
          have HS1:=hid hs1
          have HM:=hid hM
          have HL1:=hid hl1
          have HL2:=hid hl2
          have HK1:=hid hk1
          have HK2:=hid hk2
          clear v1 kb1 hd1 hs1 hM hl1 hl2 hk1 hk2 V KB HD2 HS2
          by_cases hlt:j<ln
          · have hjl:j<rs.length:=by have:=HNl.out;omega
            have hjn:(j:Int)<(ln:Int):=by omega
            have hsz:=HL.out.2.2 rs[j] (List.getElem_mem hjl)
            obtain⟨ad,rfl,hab,hc⟩:=HS1.out.strs.load hjl
            have HDD:=hid (fun y hy=>HM.out.trans (repM_at (t:=t) hjl (y:=y) hy))
            have HW:=hid (wsum_drop hjl)
            have htw:=take_wkeys rs[j]
            generalize rs[j]=r0 at hsz hc HDD HW htw
            have KT:=hid (fun W=>refTakeB_any (bs r0) W (by rw[bs_size];unfold maxLen;omega))
            simp only[list_bs] at KT
            have HDD:=hid (HDD.out _ rfl)
            generalize Bm.take r0=y at KT HDD HW htw
            generalize bs r0=r at hc KT
            clear hsz
            obtain⟨⟨k,tok,ws⟩,eb⟩:=y
            simp only at KT HDD HW htw
            have HTW:=hid htw
            clear htw
            by_cases he:eb=0
            · subst he
              have HDD:=hid (HDD.out.trans (if_neg (by simp)))
              go_wp2_with fail
              refine(KT.out _).mono ?_
              rintro e w4 ⟨D,dc,rfl,o2,q4⟩
              simp only at o2
              have ZB:=hid (Bx.new w4 [.int .i64 k,.string tok,.slice D ws.length dc] 48)
              have ZB:Hid (Bx (w4.alloc (.cells #[.int .i64 k,.string tok,.slice D ws.length dc] 48)) w4.heap.size [.int .i64 k,.string tok,.slice D ws.length dc]):=ZB
              have QA:=hid (q4.alloc (.cells #[.int .i64 k,.string tok,.slice D ws.length dc] 48))
              have ZW:=hid (o2.lst.q ((Q.refl w4).alloc (.cells #[.int .i64 k,.string tok,.slice D ws.length dc] 48)))
              clear o2 q4
              go_upto_region 26 with (fail)
              generalize (w4.alloc (.cells #[.int .i64 k,.string tok,.slice D ws.length dc] 48))=W4 at ZB QA ZW ⊢
              generalize w4.heap.size=gb at ZB ⊢
              have V4:=hid (V1.out.step QA.out)
              have HS4:=hid (HS1.out.q QA.out)
              have HD4:=hid (HD1.out.q QA.out)
              have KB4:=hid (KB1.out.q QA.out)
              clear V1 HS1 HD1 KB1 QA
              obtain⟨⟨e0,e1⟩,f0,f1⟩:=V4.out.sb.get2
              obtain⟨b0,b1,b2⟩:=ZB.out.get3.1
              have KD:=hid (fun W (hA:In_ pairK W B1 n1 c1 t.data) (hB:In_ pairK W C1 m1 d1 t.toks) (hC:Lst writeK W D ws.length ws)=>refDo_any k tok B1 C1 D n1 c1 m1 d1 ws.length dc t.data t.toks ws W hA hB hC (by have:=HTW.out.2.2;unfold maxLen;omega) (by have:=HL1.out;have:=HK.out.1;have:=HL.out.2.1;have:=hA.len;omega) (by have:=HL2.out;have:=HK.out.2.1;have:=HL.out.1;have:=hB.len;omega) HK1.out HK2.out HTW.out.1 HTW.out.2.1)
              have hdl:=Bm.doo_lenW t ⟨k,tok,ws⟩
              have hkk:=doo_keys (s:=t) (b:=⟨k,tok,ws⟩) HK1.out HK2.out HTW.out.1 HTW.out.2.1
              rw[show (⟨t.data,t.toks⟩:Bm.Sta)=t from rfl] at KD
              generalize Bm.doo t ⟨k,tok,ws⟩=z at KD HDD hdl hkk
              obtain⟨z,ze⟩:=z
              simp only at KD HDD hdl hkk
              have HDL:=hid hdl
              have HKK:=hid hkk
              clear hdl hkk
              go_wp2_with fail
              refine(KD.out _ V4.out.data V4.out.toks ZW.out).mono ?_
              rintro e w5 ⟨A5,n5,c5,B5,m5,d5,rfl,i5,i6,q5⟩
              have V5:=hid (V4.out.step q5)
              have V6:=hid (V5.out.set (s':=z) i5 i6)
              have HS6:=hid ((HS4.out.q q5).two (g:=g) (Nat.lt_succ_self g) (.slice A5 n5 c5) (.slice B5 m5 d5))
              have HD6:=hid ((HD4.out.q q5).stk V5.out.sb (nt2 _ _ _ _ _ _) _ (us2_ok A5 n5 c5 B5 m5 d5 (Value.slice B1 n1 c1) (.slice C1 m1 d1)))
              have KB6:=hid ((KB4.out.q q5).far2 (c:=g) (by have:=HG.out;omega) (.slice A5 n5 c5) (.slice B5 m5 d5))
              clear V4 HS4 HD4 KB4 ZB ZW i5 i6 q5 e0 e1 f0 f1 b0 b1 b2
              obtain⟨⟨e0,e1⟩,f0,f1⟩:=V5.out.sb.get2
              clear V5
              go_wp2
              go_roundw
              case rel=>exact⟨j+1,z,A5,n5,c5,B5,m5,d5,by omega,by go_num,V6.out,KB6.out,HD6.out,HS6.out,HDD.out,by have:=HDL.out.1;have:=HL1.out;have:=HW.out;(try simp only at *);omega,by have:=HDL.out.2;have:=HL2.out;(try simp only at *);omega,HKK.out.1,HKK.out.2⟩
              case measure=>simp[intOf];omega
            · have HDD:=hid (HDD.out.trans (if_pos (by simpa using he)))
              have hne:((eb:Int) != 0)=true:=by simp;omega
              go_wp2_with fail
              refine(KT.out _).mono ?_
              rintro e w4 ⟨D,dc,rfl,o2,q4⟩
              have QA:=hid (q4.alloc (.cells #[.int .i64 k,.string tok,.slice D ws.length dc] 48))
              clear o2 q4
              go_upto_region 26 with (fail)
              generalize (w4.alloc (.cells #[.int .i64 k,.string tok,.slice D ws.length dc] 48))=W4 at QA ⊢
              have V4:=hid (V1.out.step QA.out).po
              clear V1 HS1 HD1 KB1 QA
              have HRE:=hid (show R=(ks0,3) from HRR.out.trans (by rw[HDD.out];rfl))
              have F0:=V4.out.fin (p:=p0) (x:=ks0) (kr0 _)
              dsimp only[us10,stk,p0,ks0] at F0
              have F:=hid F0
              obtain⟨g0,g1,g2,g3,g4,g5,g6,g7,g8,g9⟩:=kfree V4.out.res
              obtain⟨i0,i1,i2,i3,i4,i5,i6,i7,i8,i9⟩:=kget V4.out.res
              clear F0
              go_wp2
              (try rw[Exit.noGoto_ret])
              obtain⟨r0,r1,r2,r3,r4,r5,r6,r7,r8,r9⟩:=kget F.out.1
              refine bodyPost_ret (v:=.tuple #[kvV p0 ks0,.int .i64 3]) (by simp[results,Tryz.results8,go_sem,r0,r1,r2,r3,r4,r5,r6,r7,r8,r9,p0,ks0]) rfl ?_
              rw[HRE.out]
              exact⟨p0,rfl,F.out.2.1,F.out.2.2⟩
          · have e:ln=j:=by omega
            have hall:rs.drop j=[]:=List.drop_eq_nil_of_le (by have:=HNl.out;omega)
            have HDD:=hid (HM.out.trans (by rw[hall,repM_nil]))
            have hnk:¬ (j:Int)<(ln:Int):=by omega
            clear hall e
            have HRE:=hid (show R=(⟨⟨l2,room2,fuse2,off2⟩,frm,last,0,t,false⟩,0) from HRR.out.trans (by rw[HDD.out];rfl))
            have F0:=V1.out.po.fin (p:=⟨A2,n2,c2,B1,n1,c1,C1,m1,d1⟩) (x:=⟨⟨l2,room2,fuse2,off2⟩,frm,last,0,t,false⟩) ⟨HD1.out,V1.out.data,V1.out.toks⟩
            dsimp only[us10,stk] at F0
            have F:=hid F0
            obtain⟨⟨e0,e1,e2,e3⟩,f0,f1,f2,f3⟩:=KB1.out.get4
            obtain⟨⟨s0,s1⟩,t0,t1⟩:=V1.out.sb.get2
            obtain⟨g0,g1,g2,g3,g4,g5,g6,g7,g8,g9⟩:=kfree V1.out.po.res
            obtain⟨i0,i1,i2,i3,i4,i5,i6,i7,i8,i9⟩:=kget V1.out.po.res
            clear F0
            go_wp2
            (try rw[Exit.noGoto_ret])
            obtain⟨r0,r1,r2,r3,r4,r5,r6,r7,r8,r9⟩:=kget F.out.1
            refine bodyPost_ret (v:=.tuple #[kvV ⟨A2,n2,c2,B1,n1,c1,C1,m1,d1⟩ ⟨⟨l2,room2,fuse2,off2⟩,frm,last,0,t,false⟩,.int .i64 0]) (by simp[results,Tryz.results8,go_sem,r0,r1,r2,r3,r4,r5,r6,r7,r8,r9]) rfl ?_
            rw[HRE.out]
            exact⟨_,rfl,F.out.2.1,F.out.2.2⟩
       · have hne:(er != 0)=true:=by simpa using her
         have V4:=hid V.out.po
         have HRE:=hid (show R=(ks0,er) from HRR.out.trans (if_pos her))
         have F0:=V4.out.fin (p:=p0) (x:=ks0) (kr0 _)
         dsimp only[us10,stk,p0,ks0] at F0
         have F:=hid F0
         obtain⟨g0,g1,g2,g3,g4,g5,g6,g7,g8,g9⟩:=kfree V4.out.res
         obtain⟨i0,i1,i2,i3,i4,i5,i6,i7,i8,i9⟩:=kget V4.out.res
         clear F0
         go_wp2
         (try rw[Exit.noGoto_ret])
         obtain⟨r0,r1,r2,r3,r4,r5,r6,r7,r8,r9⟩:=kget F.out.1
         refine bodyPost_ret (v:=.tuple #[kvV p0 ks0,.int .i64 er]) (by simp[results,Tryz.results8,go_sem,r0,r1,r2,r3,r4,r5,r6,r7,r8,r9,p0,ks0]) rfl ?_
         rw[HRE.out]
         exact⟨p0,rfl,F.out.2.1,F.out.2.2⟩
     · have hls := HLS.out n0
       rw[if_neg hn0] at hls
       have hn1:0<n0:=by have:=HFR.out;omega
       have KN:=hid (fun W=>refRunName_any n0 W (by omega) (by have:=HFR.out;omega))
       have KL:=hid (fun W hd=>KL0.out (rnamB n0) W hd)
       have hcnt:=HC0.out (rnamB n0)
       have hkey:=HY0.out (rnamB n0)
       generalize rnamB n0=nm at KN KL hcnt hkey hls
       clear HLS KL0 HC0 HY0
       simp only at KL
       generalize Rn.loadM nm l=x at KL hcnt hkey hls
       obtain⟨rows,le⟩:=x
       simp only at KL hcnt hkey hls
       by_cases hle:le=0
       · subst hle
         rw[if_neg (by simp)] at hls
         have hb1:rows.length*32≤140737488355328:=by omega
         have KB2:=hid (fun (A2:Option Addr) (c2:Nat) (W:World) (hl:Lst pairK W A2 rows.length rows)=>refBack_any A2 rows.length c2 rows W hl hb1 (fun p hp=>Nat.le_trans (hkey p hp) (by omega)))
         have hbl:=Bm.back_lenK rows
         have hbk:=back_keys (N:=65536) hkey
         generalize Bm.back rows=y at KB2 hls hbl hbk
         obtain⟨s,sb⟩:=y
         simp only at KB2 hls hbl hbk
         have HL2:=hid (show s.data.length*32≤140737488355328∧s.toks.length*32≤140737488355328 by omega)
         have HK:Hid (s.data.length≤1073741824∧s.toks.length≤1073741824∧KeysIn s.data∧KeysIn s.toks):=hid ⟨by omega,by omega,fun p hp=>Nat.le_trans (hbk.1 p hp) (by unfold maxLen;omega),fun p hp=>Nat.le_trans (hbk.2 p hp) (by unfold maxLen;omega)⟩
         by_cases hsb:sb=0
         · subst hsb
           rw[if_neg (by simp)] at hls
           have HRR:=hid (show R=opnC frm n0 s (⟨l2,room2,fuse2,off2⟩,rs,last,er) from HX3.out.trans (by rw[hls];exact(HB3.out _).trans (if_neg (by simp))))
           clear hls HX3 HB3 hcnt hkey hb1 hbl hbk
           go_enter Tryz.func8,Tryz.ntmps8
           go_upto_region 1 with (fail)
           generalize ((w.alloc (.cells #[.slice A n c,.int .i64 room,.int .i64 fuse,.bool off] 24)).alloc (.cells #[.slice none 0 0,.int .i64 0,.int .i64 0,.bool false,.int .i64 0,.int .i64 0,.int .i64 0,.slice none 0 0,.slice none 0 0,.bool false] 32))=W at X0 ⊢
           obtain⟨⟨e0,e1,e2,e3⟩,f0,f1,f2,f3⟩:=X0.out.db.get4
           go_wp2_with fail
           refine(HR.out _ X0.out.dsk.files).mono ?_
           rintro e w1 ⟨rfl,q1⟩
           clear e0 e1 e2 e3 f0 f1 f2 f3
           go_wp2_with fail
           refine(KT.out _).mono ?_
           rintro e w2 ⟨rfl,q2⟩
           have X1:=hid ((X0.out.step q1).step q2)
           clear q1 q2 X0 KT HR
           have X2:=hid (Ps.new (s:=⟨[],[]⟩) X1.out (In_.none_ pairK _) (In_.none_ pairK _))
           go_upto_region 11 with (fail)
           generalize w2.alloc (.cells #[.slice none 0 0,.slice none 0 0] 30)=W2 at X2 ⊢
           generalize w2.heap.size=g at X2 ⊢
           obtain⟨⟨e0,e1,e2,e3⟩,f0,f1,f2,f3⟩:=X2.out.po.db.get4
           go_upto_region 12 with (fail)
           refine wp_region_held_drew (S:=Q W2) (by kernel_rfl) ?szz0 (fun hHeld=>?rzz0)
           case szz0 =>
            exact(Q.refl W2).drew
           generalize hgen:W2.drew=D0 at hHeld ⊢
           clear hgen
           refine takeH 0 ?v1 ?y1 ?_
           case y1=>intro w hSw;have x0:=box_ hSw e0;have x1:=box_ hSw e1;have x2:=box_ hSw e2;have x3:=box_ hSw e3;clear hSw;go_simp;try with_reducible rfl
           refine takH 1 ?_
           refine oneH 2 (fun K hK=>?_)
           go_simp
           refine(KN.out _).mono ?_
           rintro e w4 ⟨rfl,q4⟩
           go_wp2_with fail
           refine hK.out _ _ (hHeld.trans q4) (fun hHeld=>?_)
           clear hK K
           try simp only[Act.put,sA,sB,sC]
           refine oneH 3 (fun K hK=>?_)
           go_simp
           refine(KL.out _ (X2.out.po.dsk.q hHeld)).mono ?_
           rintro e w5 ⟨A5,c5,rfl,o5,q5⟩
           have OL:=hid (o5)
           go_wp2_with fail
           refine hK.out _ _ (hHeld.trans q5) (fun hHeld=>?_)
           clear hK K
           try simp only[Act.put,sA,sB,sC]
           refine takH 4 ?_
           refine takH 5 ?_
           refine wpAnyH_ready (rs:=[6,7]) (by kernel_rfl) (by simp) ?_
           refine consH (fun K hK=>?kzz9) ?_
           case kzz9 =>
            go_simp
            refine hK.out _ _ (hHeld) (fun hHeld=>?_)
            clear hK K
            try simp only[Act.put,sA,sB,sC]
            refine takH 7 ?_
            refine takH 8 ?_
            refine doneH ?_
            have X3:=hid (X2.out.step (hHeld))
            clear hHeld e0 e1 e2 e3 f0 f1 f2 f3 KN KL X2
            go_wp2_with fail
            refine(KB2.out A5 c5 _ OL.out.lst).mono ?_
            rintro e w6 ⟨A6,c6,B6,d6,rfl,o6,p6,q6⟩
            simp only at o6 p6
            have X4:=hid (X3.out.step (q6.alloc (.cells #[.slice A6 s.data.length c6,.slice B6 s.toks.length d6] 30)))
            have Z:=hid (Bx.new w6 [.slice A6 s.data.length c6,.slice B6 s.toks.length d6] 30)
            have Z:Hid (Bx (w6.alloc (.cells #[.slice A6 s.data.length c6,.slice B6 s.toks.length d6] 30)) w6.heap.size [.slice A6 s.data.length c6,.slice B6 s.toks.length d6]):=Z
            have I4:=hid (And.intro ((o6.in_ HL2.out.1).q ((Q.refl w6).alloc (.cells #[.slice A6 s.data.length c6,.slice B6 s.toks.length d6] 30))) ((p6.in_ HL2.out.2).q ((Q.refl w6).alloc (.cells #[.slice A6 s.data.length c6,.slice B6 s.toks.length d6] 30))))
            clear o6 p6 q6 X3 OL
            go_upto_region 16 with (fail)
            generalize (w6.alloc (.cells #[.slice A6 s.data.length c6,.slice B6 s.toks.length d6] 30))=W6 at X4 Z I4 ⊢
            generalize w6.heap.size=gz at Z ⊢
            obtain⟨⟨z0,z1⟩,z2,z3⟩:=Z.out.get2
            obtain⟨⟨s0,s1⟩,s2,s3⟩:=X4.out.sb.get2
            have X5:=hid (X4.out.set (s':=s) I4.out.1 I4.out.2)
            clear I4
            go_upto_region 19 with (fail)
            generalize ((W6.setCell ⟨g,0,none⟩ (.slice A6 s.data.length c6)).setCell ⟨g,1,none⟩ (.slice B6 s.toks.length d6))=W7 at X5 ⊢
            clear z0 z1 z2 z3 s0 s1 s2 s3 Z X4
            have X2:=X5
            clear X5
            obtain⟨⟨e0,e1,e2,e3⟩,f0,f1,f2,f3⟩:=X2.out.po.db.get4
            go_wp2_with fail
            refine(KR.out _ X2.out.po.dsk).mono ?_
            rintro e w3 ⟨A2,n2,c2,L,ln,lc,rfl,hd2,hf2,hl2,q3⟩
            have HG:=hid (show g+1≤w3.heap.size from Nat.lt_of_lt_of_le X2.out.sb.lt q3.size)
            have KB:=hid (Bx.new w3 [.slice A2 n2 c2,.int .i64 room2,.int .i64 fuse2,.bool off2] 24)
            have KB:Hid (Bx (w3.alloc (.cells #[.slice A2 n2 c2,.int .i64 room2,.int .i64 fuse2,.bool off2] 24)) w3.heap.size [.slice A2 n2 c2,.int .i64 room2,.int .i64 fuse2,.bool off2]):=KB
            have V:=hid (X2.out.step (q3.alloc (.cells #[.slice A2 n2 c2,.int .i64 room2,.int .i64 fuse2,.bool off2] 24)))
            have HD2:=hid (Dsk.q hd2 ((Q.refl w3).alloc (.cells #[.slice A2 n2 c2,.int .i64 room2,.int .i64 fuse2,.bool off2] 24)))
            have HS2:=hid ((hl2.lower (b2:=g+1) (X2.out.sb.lt)).q ((Q.refl w3).alloc (.cells #[.slice A2 n2 c2,.int .i64 room2,.int .i64 fuse2,.bool off2] 24)))
            clear q3 X2 hd2 hf2 hl2 e0 e1 e2 e3 f0 f1 f2 f3 KR
            go_upto_region 20 with (fail)
            generalize w3.alloc (.cells #[.slice A2 n2 c2,.int .i64 room2,.int .i64 fuse2,.bool off2] 24)=W3 at V KB HD2 HS2 ⊢
            generalize w3.heap.size=gk at KB HG ⊢
            by_cases her:er=0
            · subst her
              have HRR:=hid (show R=endM frm n0 (⟨l2,room2,fuse2,off2⟩,rs,last,0) (repM s rs) from HRR.out.trans (if_neg (by simp)))
              have HNl:=hid HS2.out.len
              have hlnb:ln≤1099511627776:=by have:=HNl.out;have:=HL.out.1;omega
              go_wp2
              go_loopw [20] (fun i wr=>∃ (j:Nat) (t:Bm.Sta) (B:Option Addr) (bn bc:Nat) (C:Option Addr) (cn cc:Nat),j≤ln∧i=.int .i64 j∧Ps w A n c ⟨l,room,fuse,off⟩ g B bn bc C cn cc t wr∧Bx wr gk [.slice A2 n2 c2,.int .i64 room2,.int .i64 fuse2,.bool off2]∧Dsk wr A2 n2 c2 l2∧OwnS wr (g+1) L ln lc rs∧repM s rs=repM t (rs.drop j)∧t.data.length+wsum (rs.drop j)≤s.data.length+wsum rs∧t.toks.length≤s.toks.length+j∧KeysIn t.data∧KeysIn t.toks) (fun i _=>ln - (intOf i).toNat)
              case atStart=>exact⟨0,s,_,_,_,_,_,_,Nat.zero_le _,rfl,V.out,KB.out,HD2.out,HS2.out,rfl,Nat.le_refl _,Nat.le_refl _,HK.out.2.2.1,HK.out.2.2.2⟩
              case round =>
               obtain⟨j,t,B1,n1,c1,C1,m1,d1,hj,rfl,v1,kb1,hd1,hs1,hM,hl1,hl2,hk1,hk2⟩:=hrel
               have V1:=hid v1
               have KB1:=hid kb1
               have HD1:=hid hd1
               have HS1:=hid hs1
               have HM:=hid hM
               have HL1:=hid hl1
               have HL2:=hid hl2
               have HK1:=hid hk1
               have HK2:=hid hk2
               clear v1 kb1 hd1 hs1 hM hl1 hl2 hk1 hk2 V KB HD2 HS2
               by_cases hlt:j<ln
               · have hjl:j<rs.length:=by have:=HNl.out;omega
                 have hjn:(j:Int)<(ln:Int):=by omega
                 have hsz:=HL.out.2.2 rs[j] (List.getElem_mem hjl)
                 obtain⟨ad,rfl,hab,hc⟩:=HS1.out.strs.load hjl
                 have HDD:=hid (fun y hy=>HM.out.trans (repM_at (t:=t) hjl (y:=y) hy))
                 have HW:=hid (wsum_drop hjl)
                 have htw:=take_wkeys rs[j]
                 generalize rs[j]=r0 at hsz hc HDD HW htw
                 have KT:=hid (fun W=>refTakeB_any (bs r0) W (by rw[bs_size];unfold maxLen;omega))
                 simp only[list_bs] at KT
                 have HDD:=hid (HDD.out _ rfl)
                 generalize Bm.take r0=y at KT HDD HW htw
                 generalize bs r0=r at hc KT
                 clear hsz
                 obtain⟨⟨k,tok,ws⟩,eb⟩:=y
                 simp only at KT HDD HW htw
                 have HTW:=hid htw
                 clear htw
                 by_cases he:eb=0
                 · subst he
                   have HDD:=hid (HDD.out.trans (if_neg (by simp)))
                   go_wp2_with fail
                   refine(KT.out _).mono ?_
                   rintro e w4 ⟨D,dc,rfl,o2,q4⟩
                   simp only at o2
                   have ZB:=hid (Bx.new w4 [.int .i64 k,.string tok,.slice D ws.length dc] 48)
                   have ZB:Hid (Bx (w4.alloc (.cells #[.int .i64 k,.string tok,.slice D ws.length dc] 48)) w4.heap.size [.int .i64 k,.string tok,.slice D ws.length dc]):=ZB
                   have QA:=hid (q4.alloc (.cells #[.int .i64 k,.string tok,.slice D ws.length dc] 48))
                   have ZW:=hid (o2.lst.q ((Q.refl w4).alloc (.cells #[.int .i64 k,.string tok,.slice D ws.length dc] 48)))
                   clear o2 q4
                   go_upto_region 26 with (fail)
                   generalize (w4.alloc (.cells #[.int .i64 k,.string tok,.slice D ws.length dc] 48))=W4 at ZB QA ZW ⊢
                   generalize w4.heap.size=gb at ZB ⊢
                   have V4:=hid (V1.out.step QA.out)
                   have HS4:=hid (HS1.out.q QA.out)
                   have HD4:=hid (HD1.out.q QA.out)
                   have KB4:=hid (KB1.out.q QA.out)
                   clear V1 HS1 HD1 KB1 QA
                   obtain⟨⟨e0,e1⟩,f0,f1⟩:=V4.out.sb.get2
                   obtain⟨b0,b1,b2⟩:=ZB.out.get3.1
                   have KD:=hid (fun W (hA:In_ pairK W B1 n1 c1 t.data) (hB:In_ pairK W C1 m1 d1 t.toks) (hC:Lst writeK W D ws.length ws)=>refDo_any k tok B1 C1 D n1 c1 m1 d1 ws.length dc t.data t.toks ws W hA hB hC (by have:=HTW.out.2.2;unfold maxLen;omega) (by have:=HL1.out;have:=HK.out.1;have:=HL.out.2.1;have:=hA.len;omega) (by have:=HL2.out;have:=HK.out.2.1;have:=HL.out.1;have:=hB.len;omega) HK1.out HK2.out HTW.out.1 HTW.out.2.1)
                   have hdl:=Bm.doo_lenW t ⟨k,tok,ws⟩
                   have hkk:=doo_keys (s:=t) (b:=⟨k,tok,ws⟩) HK1.out HK2.out HTW.out.1 HTW.out.2.1
                   rw[show (⟨t.data,t.toks⟩:Bm.Sta)=t from rfl] at KD
                   generalize Bm.doo t ⟨k,tok,ws⟩=z at KD HDD hdl hkk
                   obtain⟨z,ze⟩:=z
                   simp only at KD HDD hdl hkk
                   have HDL:=hid hdl
                   have HKK:=hid hkk
                   clear hdl hkk
                   go_wp2_with fail
                   refine(KD.out _ V4.out.data V4.out.toks ZW.out).mono ?_
                   rintro e w5 ⟨A5,n5,c5,B5,m5,d5,rfl,i5,i6,q5⟩
                   have V5:=hid (V4.out.step q5)
                   have V6:=hid (V5.out.set (s':=z) i5 i6)
                   have HS6:=hid ((HS4.out.q q5).two (g:=g) (Nat.lt_succ_self g) (.slice A5 n5 c5) (.slice B5 m5 d5))
                   have HD6:=hid ((HD4.out.q q5).stk V5.out.sb (nt2 _ _ _ _ _ _) _ (us2_ok A5 n5 c5 B5 m5 d5 (Value.slice B1 n1 c1) (.slice C1 m1 d1)))
                   have KB6:=hid ((KB4.out.q q5).far2 (c:=g) (by have:=HG.out;omega) (.slice A5 n5 c5) (.slice B5 m5 d5))
                   clear V4 HS4 HD4 KB4 ZB ZW i5 i6 q5 e0 e1 f0 f1 b0 b1 b2
                   obtain⟨⟨e0,e1⟩,f0,f1⟩:=V5.out.sb.get2
                   clear V5
                   go_wp2
                   go_roundw
                   case rel=>exact⟨j+1,z,A5,n5,c5,B5,m5,d5,by omega,by go_num,V6.out,KB6.out,HD6.out,HS6.out,HDD.out,by have:=HDL.out.1;have:=HL1.out;have:=HW.out;(try simp only at *);omega,by have:=HDL.out.2;have:=HL2.out;(try simp only at *);omega,HKK.out.1,HKK.out.2⟩
                   case measure=>simp[intOf];omega
                 · have HDD:=hid (HDD.out.trans (if_pos (by simpa using he)))
                   have hne:((eb:Int) != 0)=true:=by simp;omega
                   go_wp2_with fail
                   refine(KT.out _).mono ?_
                   rintro e w4 ⟨D,dc,rfl,o2,q4⟩
                   have QA:=hid (q4.alloc (.cells #[.int .i64 k,.string tok,.slice D ws.length dc] 48))
                   clear o2 q4
                   go_upto_region 26 with (fail)
                   generalize (w4.alloc (.cells #[.int .i64 k,.string tok,.slice D ws.length dc] 48))=W4 at QA ⊢
                   have V4:=hid (V1.out.step QA.out).po
                   clear V1 HS1 HD1 KB1 QA
                   have HRE:=hid (show R=(ks0,3) from HRR.out.trans (by rw[HDD.out];rfl))
                   have F0:=V4.out.fin (p:=p0) (x:=ks0) (kr0 _)
                   dsimp only[us10,stk,p0,ks0] at F0
                   have F:=hid F0
                   obtain⟨g0,g1,g2,g3,g4,g5,g6,g7,g8,g9⟩:=kfree V4.out.res
                   obtain⟨i0,i1,i2,i3,i4,i5,i6,i7,i8,i9⟩:=kget V4.out.res
                   clear F0
                   go_wp2
                   (try rw[Exit.noGoto_ret])
                   obtain⟨r0,r1,r2,r3,r4,r5,r6,r7,r8,r9⟩:=kget F.out.1
                   refine bodyPost_ret (v:=.tuple #[kvV p0 ks0,.int .i64 3]) (by simp[results,Tryz.results8,go_sem,r0,r1,r2,r3,r4,r5,r6,r7,r8,r9,p0,ks0]) rfl ?_
                   rw[HRE.out]
                   exact⟨p0,rfl,F.out.2.1,F.out.2.2⟩
               · have e:ln=j:=by omega
                 have hall:rs.drop j=[]:=List.drop_eq_nil_of_le (by have:=HNl.out;omega)
                 have HDD:=hid (HM.out.trans (by rw[hall,repM_nil]))
                 have hnk:¬ (j:Int)<(ln:Int):=by omega
                 clear hall e
                 have HRE:=hid (show R=(⟨⟨l2,room2,fuse2,off2⟩,frm,last,n0,t,false⟩,0) from HRR.out.trans (by rw[HDD.out];rfl))
                 have F0:=V1.out.po.fin (p:=⟨A2,n2,c2,B1,n1,c1,C1,m1,d1⟩) (x:=⟨⟨l2,room2,fuse2,off2⟩,frm,last,n0,t,false⟩) ⟨HD1.out,V1.out.data,V1.out.toks⟩
                 dsimp only[us10,stk] at F0
                 have F:=hid F0
                 obtain⟨⟨e0,e1,e2,e3⟩,f0,f1,f2,f3⟩:=KB1.out.get4
                 obtain⟨⟨s0,s1⟩,t0,t1⟩:=V1.out.sb.get2
                 obtain⟨g0,g1,g2,g3,g4,g5,g6,g7,g8,g9⟩:=kfree V1.out.po.res
                 obtain⟨i0,i1,i2,i3,i4,i5,i6,i7,i8,i9⟩:=kget V1.out.po.res
                 clear F0
                 go_wp2
                 (try rw[Exit.noGoto_ret])
                 obtain⟨r0,r1,r2,r3,r4,r5,r6,r7,r8,r9⟩:=kget F.out.1
                 refine bodyPost_ret (v:=.tuple #[kvV ⟨A2,n2,c2,B1,n1,c1,C1,m1,d1⟩ ⟨⟨l2,room2,fuse2,off2⟩,frm,last,n0,t,false⟩,.int .i64 0]) (by simp[results,Tryz.results8,go_sem,r0,r1,r2,r3,r4,r5,r6,r7,r8,r9]) rfl ?_
                 rw[HRE.out]
                 exact⟨_,rfl,F.out.2.1,F.out.2.2⟩
            · have hne:(er != 0)=true:=by simpa using her
              have V4:=hid V.out.po
              have HRE:=hid (show R=(ks0,er) from HRR.out.trans (if_pos her))
              have F0:=V4.out.fin (p:=p0) (x:=ks0) (kr0 _)
              dsimp only[us10,stk,p0,ks0] at F0
              have F:=hid F0
              obtain⟨g0,g1,g2,g3,g4,g5,g6,g7,g8,g9⟩:=kfree V4.out.res
              obtain⟨i0,i1,i2,i3,i4,i5,i6,i7,i8,i9⟩:=kget V4.out.res
              clear F0
              go_wp2
              (try rw[Exit.noGoto_ret])
              obtain⟨r0,r1,r2,r3,r4,r5,r6,r7,r8,r9⟩:=kget F.out.1
              refine bodyPost_ret (v:=.tuple #[kvV p0 ks0,.int .i64 er]) (by simp[results,Tryz.results8,go_sem,r0,r1,r2,r3,r4,r5,r6,r7,r8,r9,p0,ks0]) rfl ?_
              rw[HRE.out]
              exact⟨p0,rfl,F.out.2.1,F.out.2.2⟩
           refine consH (fun K hK=>?_) AllReadyH.nil
           go_simp
           refine hK.out _ _ (hHeld) (fun hHeld=>?_)
           clear hK K
           try simp only[Act.put,sA,sB,sC]
           refine takH 6 ?_
           refine takH 8 ?_
           refine doneH ?_
           have X3:=hid (X2.out.step (hHeld))
           clear hHeld e0 e1 e2 e3 f0 f1 f2 f3 KN KL X2
           go_wp2_with fail
           refine(KB2.out A5 c5 _ OL.out.lst).mono ?_
           rintro e w6 ⟨A6,c6,B6,d6,rfl,o6,p6,q6⟩
           simp only at o6 p6
           have X4:=hid (X3.out.step (q6.alloc (.cells #[.slice A6 s.data.length c6,.slice B6 s.toks.length d6] 30)))
           have Z:=hid (Bx.new w6 [.slice A6 s.data.length c6,.slice B6 s.toks.length d6] 30)
           have Z:Hid (Bx (w6.alloc (.cells #[.slice A6 s.data.length c6,.slice B6 s.toks.length d6] 30)) w6.heap.size [.slice A6 s.data.length c6,.slice B6 s.toks.length d6]):=Z
           have I4:=hid (And.intro ((o6.in_ HL2.out.1).q ((Q.refl w6).alloc (.cells #[.slice A6 s.data.length c6,.slice B6 s.toks.length d6] 30))) ((p6.in_ HL2.out.2).q ((Q.refl w6).alloc (.cells #[.slice A6 s.data.length c6,.slice B6 s.toks.length d6] 30))))
           clear o6 p6 q6 X3 OL
           go_upto_region 16 with (fail)
           generalize (w6.alloc (.cells #[.slice A6 s.data.length c6,.slice B6 s.toks.length d6] 30))=W6 at X4 Z I4 ⊢
           generalize w6.heap.size=gz at Z ⊢
           obtain⟨⟨z0,z1⟩,z2,z3⟩:=Z.out.get2
           obtain⟨⟨s0,s1⟩,s2,s3⟩:=X4.out.sb.get2
           have X5:=hid (X4.out.set (s':=s) I4.out.1 I4.out.2)
           clear I4
           go_upto_region 19 with (fail)
           generalize ((W6.setCell ⟨g,0,none⟩ (.slice A6 s.data.length c6)).setCell ⟨g,1,none⟩ (.slice B6 s.toks.length d6))=W7 at X5 ⊢
           clear z0 z1 z2 z3 s0 s1 s2 s3 Z X4
           have X2:=X5
           clear X5
           obtain⟨⟨e0,e1,e2,e3⟩,f0,f1,f2,f3⟩:=X2.out.po.db.get4
           go_wp2_with fail
           refine(KR.out _ X2.out.po.dsk).mono ?_
           rintro e w3 ⟨A2,n2,c2,L,ln,lc,rfl,hd2,hf2,hl2,q3⟩
           have HG:=hid (show g+1≤w3.heap.size from Nat.lt_of_lt_of_le X2.out.sb.lt q3.size)
           have KB:=hid (Bx.new w3 [.slice A2 n2 c2,.int .i64 room2,.int .i64 fuse2,.bool off2] 24)
           have KB:Hid (Bx (w3.alloc (.cells #[.slice A2 n2 c2,.int .i64 room2,.int .i64 fuse2,.bool off2] 24)) w3.heap.size [.slice A2 n2 c2,.int .i64 room2,.int .i64 fuse2,.bool off2]):=KB
           have V:=hid (X2.out.step (q3.alloc (.cells #[.slice A2 n2 c2,.int .i64 room2,.int .i64 fuse2,.bool off2] 24)))
           have HD2:=hid (Dsk.q hd2 ((Q.refl w3).alloc (.cells #[.slice A2 n2 c2,.int .i64 room2,.int .i64 fuse2,.bool off2] 24)))
           have HS2:=hid ((hl2.lower (b2:=g+1) (X2.out.sb.lt)).q ((Q.refl w3).alloc (.cells #[.slice A2 n2 c2,.int .i64 room2,.int .i64 fuse2,.bool off2] 24)))
           clear q3 X2 hd2 hf2 hl2 e0 e1 e2 e3 f0 f1 f2 f3 KR
           go_upto_region 20 with (fail)
           generalize w3.alloc (.cells #[.slice A2 n2 c2,.int .i64 room2,.int .i64 fuse2,.bool off2] 24)=W3 at V KB HD2 HS2 ⊢
           generalize w3.heap.size=gk at KB HG ⊢
           by_cases her:er=0
           · subst her
             have HRR:=hid (show R=endM frm n0 (⟨l2,room2,fuse2,off2⟩,rs,last,0) (repM s rs) from HRR.out.trans (if_neg (by simp)))
             have HNl:=hid HS2.out.len
             have hlnb:ln≤1099511627776:=by have:=HNl.out;have:=HL.out.1;omega
             go_wp2
             go_loopw [20] (fun i wr=>∃ (j:Nat) (t:Bm.Sta) (B:Option Addr) (bn bc:Nat) (C:Option Addr) (cn cc:Nat),j≤ln∧i=.int .i64 j∧Ps w A n c ⟨l,room,fuse,off⟩ g B bn bc C cn cc t wr∧Bx wr gk [.slice A2 n2 c2,.int .i64 room2,.int .i64 fuse2,.bool off2]∧Dsk wr A2 n2 c2 l2∧OwnS wr (g+1) L ln lc rs∧repM s rs=repM t (rs.drop j)∧t.data.length+wsum (rs.drop j)≤s.data.length+wsum rs∧t.toks.length≤s.toks.length+j∧KeysIn t.data∧KeysIn t.toks) (fun i _=>ln - (intOf i).toNat)
             case atStart=>exact⟨0,s,_,_,_,_,_,_,Nat.zero_le _,rfl,V.out,KB.out,HD2.out,HS2.out,rfl,Nat.le_refl _,Nat.le_refl _,HK.out.2.2.1,HK.out.2.2.2⟩
             case round =>
              obtain⟨j,t,B1,n1,c1,C1,m1,d1,hj,rfl,v1,kb1,hd1,hs1,hM,hl1,hl2,hk1,hk2⟩:=hrel
              have V1:=hid v1
              have KB1:=hid kb1
              have HD1:=hid hd1
              have HS1:=hid hs1
              have HM:=hid hM
              have HL1:=hid hl1
              have HL2:=hid hl2
              have HK1:=hid hk1
              have HK2:=hid hk2
              clear v1 kb1 hd1 hs1 hM hl1 hl2 hk1 hk2 V KB HD2 HS2
              by_cases hlt:j<ln
              · have hjl:j<rs.length:=by have:=HNl.out;omega
                have hjn:(j:Int)<(ln:Int):=by omega
                have hsz:=HL.out.2.2 rs[j] (List.getElem_mem hjl)
                obtain⟨ad,rfl,hab,hc⟩:=HS1.out.strs.load hjl
                have HDD:=hid (fun y hy=>HM.out.trans (repM_at (t:=t) hjl (y:=y) hy))
                have HW:=hid (wsum_drop hjl)
                have htw:=take_wkeys rs[j]
                generalize rs[j]=r0 at hsz hc HDD HW htw
                have KT:=hid (fun W=>refTakeB_any (bs r0) W (by rw[bs_size];unfold maxLen;omega))
                simp only[list_bs] at KT
                have HDD:=hid (HDD.out _ rfl)
                generalize Bm.take r0=y at KT HDD HW htw
                generalize bs r0=r at hc KT
                clear hsz
                obtain⟨⟨k,tok,ws⟩,eb⟩:=y
                simp only at KT HDD HW htw
                have HTW:=hid htw
                clear htw
                by_cases he:eb=0
                · subst he
                  have HDD:=hid (HDD.out.trans (if_neg (by simp)))
                  go_wp2_with fail
                  refine(KT.out _).mono ?_
                  rintro e w4 ⟨D,dc,rfl,o2,q4⟩
                  simp only at o2
                  have ZB:=hid (Bx.new w4 [.int .i64 k,.string tok,.slice D ws.length dc] 48)
                  have ZB:Hid (Bx (w4.alloc (.cells #[.int .i64 k,.string tok,.slice D ws.length dc] 48)) w4.heap.size [.int .i64 k,.string tok,.slice D ws.length dc]):=ZB
                  have QA:=hid (q4.alloc (.cells #[.int .i64 k,.string tok,.slice D ws.length dc] 48))
                  have ZW:=hid (o2.lst.q ((Q.refl w4).alloc (.cells #[.int .i64 k,.string tok,.slice D ws.length dc] 48)))
                  clear o2 q4
                  go_upto_region 26 with (fail)
                  generalize (w4.alloc (.cells #[.int .i64 k,.string tok,.slice D ws.length dc] 48))=W4 at ZB QA ZW ⊢
                  generalize w4.heap.size=gb at ZB ⊢
                  have V4:=hid (V1.out.step QA.out)
                  have HS4:=hid (HS1.out.q QA.out)
                  have HD4:=hid (HD1.out.q QA.out)
                  have KB4:=hid (KB1.out.q QA.out)
                  clear V1 HS1 HD1 KB1 QA
                  obtain⟨⟨e0,e1⟩,f0,f1⟩:=V4.out.sb.get2
                  obtain⟨b0,b1,b2⟩:=ZB.out.get3.1
                  have KD:=hid (fun W (hA:In_ pairK W B1 n1 c1 t.data) (hB:In_ pairK W C1 m1 d1 t.toks) (hC:Lst writeK W D ws.length ws)=>refDo_any k tok B1 C1 D n1 c1 m1 d1 ws.length dc t.data t.toks ws W hA hB hC (by have:=HTW.out.2.2;unfold maxLen;omega) (by have:=HL1.out;have:=HK.out.1;have:=HL.out.2.1;have:=hA.len;omega) (by have:=HL2.out;have:=HK.out.2.1;have:=HL.out.1;have:=hB.len;omega) HK1.out HK2.out HTW.out.1 HTW.out.2.1)
                  have hdl:=Bm.doo_lenW t ⟨k,tok,ws⟩
                  have hkk:=doo_keys (s:=t) (b:=⟨k,tok,ws⟩) HK1.out HK2.out HTW.out.1 HTW.out.2.1
                  rw[show (⟨t.data,t.toks⟩:Bm.Sta)=t from rfl] at KD
                  generalize Bm.doo t ⟨k,tok,ws⟩=z at KD HDD hdl hkk
                  obtain⟨z,ze⟩:=z
                  simp only at KD HDD hdl hkk
                  have HDL:=hid hdl
                  have HKK:=hid hkk
                  clear hdl hkk
                  go_wp2_with fail
                  refine(KD.out _ V4.out.data V4.out.toks ZW.out).mono ?_
                  rintro e w5 ⟨A5,n5,c5,B5,m5,d5,rfl,i5,i6,q5⟩
                  have V5:=hid (V4.out.step q5)
                  have V6:=hid (V5.out.set (s':=z) i5 i6)
                  have HS6:=hid ((HS4.out.q q5).two (g:=g) (Nat.lt_succ_self g) (.slice A5 n5 c5) (.slice B5 m5 d5))
                  have HD6:=hid ((HD4.out.q q5).stk V5.out.sb (nt2 _ _ _ _ _ _) _ (us2_ok A5 n5 c5 B5 m5 d5 (Value.slice B1 n1 c1) (.slice C1 m1 d1)))
                  have KB6:=hid ((KB4.out.q q5).far2 (c:=g) (by have:=HG.out;omega) (.slice A5 n5 c5) (.slice B5 m5 d5))
                  clear V4 HS4 HD4 KB4 ZB ZW i5 i6 q5 e0 e1 f0 f1 b0 b1 b2
                  obtain⟨⟨e0,e1⟩,f0,f1⟩:=V5.out.sb.get2
                  clear V5
                  go_wp2
                  go_roundw
                  case rel=>exact⟨j+1,z,A5,n5,c5,B5,m5,d5,by omega,by go_num,V6.out,KB6.out,HD6.out,HS6.out,HDD.out,by have:=HDL.out.1;have:=HL1.out;have:=HW.out;(try simp only at *);omega,by have:=HDL.out.2;have:=HL2.out;(try simp only at *);omega,HKK.out.1,HKK.out.2⟩
                  case measure=>simp[intOf];omega
                · have HDD:=hid (HDD.out.trans (if_pos (by simpa using he)))
                  have hne:((eb:Int) != 0)=true:=by simp;omega
                  go_wp2_with fail
                  refine(KT.out _).mono ?_
                  rintro e w4 ⟨D,dc,rfl,o2,q4⟩
                  have QA:=hid (q4.alloc (.cells #[.int .i64 k,.string tok,.slice D ws.length dc] 48))
                  clear o2 q4
                  go_upto_region 26 with (fail)
                  generalize (w4.alloc (.cells #[.int .i64 k,.string tok,.slice D ws.length dc] 48))=W4 at QA ⊢
                  have V4:=hid (V1.out.step QA.out).po
                  clear V1 HS1 HD1 KB1 QA
                  have HRE:=hid (show R=(ks0,3) from HRR.out.trans (by rw[HDD.out];rfl))
                  have F0:=V4.out.fin (p:=p0) (x:=ks0) (kr0 _)
                  dsimp only[us10,stk,p0,ks0] at F0
                  have F:=hid F0
                  obtain⟨g0,g1,g2,g3,g4,g5,g6,g7,g8,g9⟩:=kfree V4.out.res
                  obtain⟨i0,i1,i2,i3,i4,i5,i6,i7,i8,i9⟩:=kget V4.out.res
                  clear F0
                  go_wp2
                  (try rw[Exit.noGoto_ret])
                  obtain⟨r0,r1,r2,r3,r4,r5,r6,r7,r8,r9⟩:=kget F.out.1
                  refine bodyPost_ret (v:=.tuple #[kvV p0 ks0,.int .i64 3]) (by simp[results,Tryz.results8,go_sem,r0,r1,r2,r3,r4,r5,r6,r7,r8,r9,p0,ks0]) rfl ?_
                  rw[HRE.out]
                  exact⟨p0,rfl,F.out.2.1,F.out.2.2⟩
              · have e:ln=j:=by omega
                have hall:rs.drop j=[]:=List.drop_eq_nil_of_le (by have:=HNl.out;omega)
                have HDD:=hid (HM.out.trans (by rw[hall,repM_nil]))
                have hnk:¬ (j:Int)<(ln:Int):=by omega
                clear hall e
                have HRE:=hid (show R=(⟨⟨l2,room2,fuse2,off2⟩,frm,last,n0,t,false⟩,0) from HRR.out.trans (by rw[HDD.out];rfl))
                have F0:=V1.out.po.fin (p:=⟨A2,n2,c2,B1,n1,c1,C1,m1,d1⟩) (x:=⟨⟨l2,room2,fuse2,off2⟩,frm,last,n0,t,false⟩) ⟨HD1.out,V1.out.data,V1.out.toks⟩
                dsimp only[us10,stk] at F0
                have F:=hid F0
                obtain⟨⟨e0,e1,e2,e3⟩,f0,f1,f2,f3⟩:=KB1.out.get4
                obtain⟨⟨s0,s1⟩,t0,t1⟩:=V1.out.sb.get2
                obtain⟨g0,g1,g2,g3,g4,g5,g6,g7,g8,g9⟩:=kfree V1.out.po.res
                obtain⟨i0,i1,i2,i3,i4,i5,i6,i7,i8,i9⟩:=kget V1.out.po.res
                clear F0
                go_wp2
                (try rw[Exit.noGoto_ret])
                obtain⟨r0,r1,r2,r3,r4,r5,r6,r7,r8,r9⟩:=kget F.out.1
                refine bodyPost_ret (v:=.tuple #[kvV ⟨A2,n2,c2,B1,n1,c1,C1,m1,d1⟩ ⟨⟨l2,room2,fuse2,off2⟩,frm,last,n0,t,false⟩,.int .i64 0]) (by simp[results,Tryz.results8,go_sem,r0,r1,r2,r3,r4,r5,r6,r7,r8,r9]) rfl ?_
                rw[HRE.out]
                exact⟨_,rfl,F.out.2.1,F.out.2.2⟩
           · have hne:(er != 0)=true:=by simpa using her
             have V4:=hid V.out.po
             have HRE:=hid (show R=(ks0,er) from HRR.out.trans (if_pos her))
             have F0:=V4.out.fin (p:=p0) (x:=ks0) (kr0 _)
             dsimp only[us10,stk,p0,ks0] at F0
             have F:=hid F0
             obtain⟨g0,g1,g2,g3,g4,g5,g6,g7,g8,g9⟩:=kfree V4.out.res
             obtain⟨i0,i1,i2,i3,i4,i5,i6,i7,i8,i9⟩:=kget V4.out.res
             clear F0
             go_wp2
             (try rw[Exit.noGoto_ret])
             obtain⟨r0,r1,r2,r3,r4,r5,r6,r7,r8,r9⟩:=kget F.out.1
             refine bodyPost_ret (v:=.tuple #[kvV p0 ks0,.int .i64 er]) (by simp[results,Tryz.results8,go_sem,r0,r1,r2,r3,r4,r5,r6,r7,r8,r9,p0,ks0]) rfl ?_
             rw[HRE.out]
             exact⟨p0,rfl,F.out.2.1,F.out.2.2⟩
         · rw[if_pos hsb] at hls
           have HRE0:=hid (show R=(ks0,3) from HX3.out.trans (by rw[hls];exact(HB3.out _).trans (if_pos (by simp))))
           have hne2:((sb:Int) != 0)=true:=by simp;omega
           clear hls HX3 HB3 hcnt hkey hb1 hbl hbk hsb
           go_enter Tryz.func8,Tryz.ntmps8
           go_upto_region 1 with (fail)
           generalize ((w.alloc (.cells #[.slice A n c,.int .i64 room,.int .i64 fuse,.bool off] 24)).alloc (.cells #[.slice none 0 0,.int .i64 0,.int .i64 0,.bool false,.int .i64 0,.int .i64 0,.int .i64 0,.slice none 0 0,.slice none 0 0,.bool false] 32))=W at X0 ⊢
           obtain⟨⟨e0,e1,e2,e3⟩,f0,f1,f2,f3⟩:=X0.out.db.get4
           go_wp2_with fail
           refine(HR.out _ X0.out.dsk.files).mono ?_
           rintro e w1 ⟨rfl,q1⟩
           clear e0 e1 e2 e3 f0 f1 f2 f3
           go_wp2_with fail
           refine(KT.out _).mono ?_
           rintro e w2 ⟨rfl,q2⟩
           have X1:=hid ((X0.out.step q1).step q2)
           clear q1 q2 X0 KT HR
           have X2:=hid (Ps.new (s:=⟨[],[]⟩) X1.out (In_.none_ pairK _) (In_.none_ pairK _))
           go_upto_region 11 with (fail)
           generalize w2.alloc (.cells #[.slice none 0 0,.slice none 0 0] 30)=W2 at X2 ⊢
           generalize w2.heap.size=g at X2 ⊢
           obtain⟨⟨e0,e1,e2,e3⟩,f0,f1,f2,f3⟩:=X2.out.po.db.get4
           go_upto_region 12 with (fail)
           refine wp_region_held_drew (S:=Q W2) (by kernel_rfl) ?szz13 (fun hHeld=>?rzz13)
           case szz13 =>
            exact(Q.refl W2).drew
           generalize hgen:W2.drew=D0 at hHeld ⊢
           clear hgen
           refine takeH 0 ?v14 ?y14 ?_
           case y14=>intro w hSw;have x0:=box_ hSw e0;have x1:=box_ hSw e1;have x2:=box_ hSw e2;have x3:=box_ hSw e3;clear hSw;go_simp;try with_reducible rfl
           refine takH 1 ?_
           refine oneH 2 (fun K hK=>?_)
           go_simp
           refine(KN.out _).mono ?_
           rintro e w4 ⟨rfl,q4⟩
           go_wp2_with fail
           refine hK.out _ _ (hHeld.trans q4) (fun hHeld=>?_)
           clear hK K
           try simp only[Act.put,sA,sB,sC]
           refine oneH 3 (fun K hK=>?_)
           go_simp
           refine(KL.out _ (X2.out.po.dsk.q hHeld)).mono ?_
           rintro e w5 ⟨A5,c5,rfl,o5,q5⟩
           have OL:=hid (o5)
           go_wp2_with fail
           refine hK.out _ _ (hHeld.trans q5) (fun hHeld=>?_)
           clear hK K
           try simp only[Act.put,sA,sB,sC]
           refine takH 4 ?_
           refine takH 5 ?_
           refine wpAnyH_ready (rs:=[6,7]) (by kernel_rfl) (by simp) ?_
           refine consH (fun K hK=>?kzz22) ?_
           case kzz22 =>
            go_simp
            refine hK.out _ _ (hHeld) (fun hHeld=>?_)
            clear hK K
            try simp only[Act.put,sA,sB,sC]
            refine takH 7 ?_
            refine takH 8 ?_
            refine doneH ?_
            have X3:=hid (X2.out.step (hHeld))
            clear hHeld e0 e1 e2 e3 f0 f1 f2 f3 KN KL X2
            go_wp2_with fail
            refine(KB2.out A5 c5 _ OL.out.lst).mono ?_
            rintro e w6 ⟨A6,c6,B6,d6,rfl,o6,p6,q6⟩
            simp only at o6 p6
            have V4:=hid (X3.out.step (q6.alloc (.cells #[.slice A6 s.data.length c6,.slice B6 s.toks.length d6] 30))).po
            clear o6 p6 q6 X3 OL
            go_upto_region 16 with (fail)
            generalize (w6.alloc (.cells #[.slice A6 s.data.length c6,.slice B6 s.toks.length d6] 30))=W6 at V4 ⊢
            have HRE:=hid (HRE0.out)
            have F0:=V4.out.fin (p:=p0) (x:=ks0) (kr0 _)
            dsimp only[us10,stk,p0,ks0] at F0
            have F:=hid F0
            obtain⟨g0,g1,g2,g3,g4,g5,g6,g7,g8,g9⟩:=kfree V4.out.res
            obtain⟨i0,i1,i2,i3,i4,i5,i6,i7,i8,i9⟩:=kget V4.out.res
            clear F0
            go_wp2
            (try rw[Exit.noGoto_ret])
            obtain⟨r0,r1,r2,r3,r4,r5,r6,r7,r8,r9⟩:=kget F.out.1
            refine bodyPost_ret (v:=.tuple #[kvV p0 ks0,.int .i64 3]) (by simp[results,Tryz.results8,go_sem,r0,r1,r2,r3,r4,r5,r6,r7,r8,r9,p0,ks0]) rfl ?_
            rw[HRE.out]
            exact⟨p0,rfl,F.out.2.1,F.out.2.2⟩
           refine consH (fun K hK=>?_) AllReadyH.nil
           go_simp
           refine hK.out _ _ (hHeld) (fun hHeld=>?_)
           clear hK K
           try simp only[Act.put,sA,sB,sC]
           refine takH 6 ?_
           refine takH 8 ?_
           refine doneH ?_
           have X3:=hid (X2.out.step (hHeld))
           clear hHeld e0 e1 e2 e3 f0 f1 f2 f3 KN KL X2
           go_wp2_with fail
           refine(KB2.out A5 c5 _ OL.out.lst).mono ?_
           rintro e w6 ⟨A6,c6,B6,d6,rfl,o6,p6,q6⟩
           simp only at o6 p6
           have V4:=hid (X3.out.step (q6.alloc (.cells #[.slice A6 s.data.length c6,.slice B6 s.toks.length d6] 30))).po
           clear o6 p6 q6 X3 OL
           go_upto_region 16 with (fail)
           generalize (w6.alloc (.cells #[.slice A6 s.data.length c6,.slice B6 s.toks.length d6] 30))=W6 at V4 ⊢
           have HRE:=hid (HRE0.out)
           have F0:=V4.out.fin (p:=p0) (x:=ks0) (kr0 _)
           dsimp only[us10,stk,p0,ks0] at F0
           have F:=hid F0
           obtain⟨g0,g1,g2,g3,g4,g5,g6,g7,g8,g9⟩:=kfree V4.out.res
           obtain⟨i0,i1,i2,i3,i4,i5,i6,i7,i8,i9⟩:=kget V4.out.res
           clear F0
           go_wp2
           (try rw[Exit.noGoto_ret])
           obtain⟨r0,r1,r2,r3,r4,r5,r6,r7,r8,r9⟩:=kget F.out.1
           refine bodyPost_ret (v:=.tuple #[kvV p0 ks0,.int .i64 3]) (by simp[results,Tryz.results8,go_sem,r0,r1,r2,r3,r4,r5,r6,r7,r8,r9,p0,ks0]) rfl ?_
           rw[HRE.out]
           exact⟨p0,rfl,F.out.2.1,F.out.2.2⟩
       · rw[if_pos (by simpa using hle)] at hls
         have HRE0:=hid (show R=(ks0,3) from HX3.out.trans (by rw[hls];exact(HB3.out _).trans (if_pos (by simp))))
         have hne2:((le:Int) != 0)=true:=by simp;omega
         clear hls HX3 HB3 hcnt hkey hle
         go_enter Tryz.func8,Tryz.ntmps8
         go_upto_region 1 with (fail)
         generalize ((w.alloc (.cells #[.slice A n c,.int .i64 room,.int .i64 fuse,.bool off] 24)).alloc (.cells #[.slice none 0 0,.int .i64 0,.int .i64 0,.bool false,.int .i64 0,.int .i64 0,.int .i64 0,.slice none 0 0,.slice none 0 0,.bool false] 32))=W at X0 ⊢
         obtain⟨⟨e0,e1,e2,e3⟩,f0,f1,f2,f3⟩:=X0.out.db.get4
         go_wp2_with fail
         refine(HR.out _ X0.out.dsk.files).mono ?_
         rintro e w1 ⟨rfl,q1⟩
         clear e0 e1 e2 e3 f0 f1 f2 f3
         go_wp2_with fail
         refine(KT.out _).mono ?_
         rintro e w2 ⟨rfl,q2⟩
         have X1:=hid ((X0.out.step q1).step q2)
         clear q1 q2 X0 KT HR
         have X2:=hid (Ps.new (s:=⟨[],[]⟩) X1.out (In_.none_ pairK _) (In_.none_ pairK _))
         go_upto_region 11 with (fail)
         generalize w2.alloc (.cells #[.slice none 0 0,.slice none 0 0] 30)=W2 at X2 ⊢
         generalize w2.heap.size=g at X2 ⊢
         obtain⟨⟨e0,e1,e2,e3⟩,f0,f1,f2,f3⟩:=X2.out.po.db.get4
         go_upto_region 12 with (fail)
         refine wp_region_held_drew (S:=Q W2) (by kernel_rfl) ?szz26 (fun hHeld=>?rzz26)
         case szz26 =>
          exact(Q.refl W2).drew
         generalize hgen:W2.drew=D0 at hHeld ⊢
         clear hgen
         refine takeH 0 ?v27 ?y27 ?_
         case y27=>intro w hSw;have x0:=box_ hSw e0;have x1:=box_ hSw e1;have x2:=box_ hSw e2;have x3:=box_ hSw e3;clear hSw;go_simp;try with_reducible rfl
         refine takH 1 ?_
         refine oneH 2 (fun K hK=>?_)
         go_simp
         refine(KN.out _).mono ?_
         rintro e w4 ⟨rfl,q4⟩
         go_wp2_with fail
         refine hK.out _ _ (hHeld.trans q4) (fun hHeld=>?_)
         clear hK K
         try simp only[Act.put,sA,sB,sC]
         refine oneH 3 (fun K hK=>?_)
         go_simp
         refine(KL.out _ (X2.out.po.dsk.q hHeld)).mono ?_
         rintro e w5 ⟨A5,c5,rfl,o5,q5⟩
         have OL:=hid (o5)
         go_wp2_with fail
         refine hK.out _ _ (hHeld.trans q5) (fun hHeld=>?_)
         clear hK K
         try simp only[Act.put,sA,sB,sC]
         refine takH 4 ?_
         refine takH 5 ?_
         refine wpAnyH_ready (rs:=[6,7]) (by kernel_rfl) (by simp) ?_
         refine consH (fun K hK=>?kzz35) ?_
         case kzz35 =>
          go_simp
          refine hK.out _ _ (hHeld) (fun hHeld=>?_)
          clear hK K
          try simp only[Act.put,sA,sB,sC]
          refine takH 7 ?_
          refine takH 8 ?_
          refine doneH ?_
          have X3:=hid (X2.out.step (hHeld))
          clear hHeld e0 e1 e2 e3 f0 f1 f2 f3 KN KL X2
          have V4:=hid X3.out.po
          clear X3 OL
          have HRE:=hid (HRE0.out)
          have F0:=V4.out.fin (p:=p0) (x:=ks0) (kr0 _)
          dsimp only[us10,stk,p0,ks0] at F0
          have F:=hid F0
          obtain⟨g0,g1,g2,g3,g4,g5,g6,g7,g8,g9⟩:=kfree V4.out.res
          obtain⟨i0,i1,i2,i3,i4,i5,i6,i7,i8,i9⟩:=kget V4.out.res
          clear F0
          go_wp2
          (try rw[Exit.noGoto_ret])
          obtain⟨r0,r1,r2,r3,r4,r5,r6,r7,r8,r9⟩:=kget F.out.1
          refine bodyPost_ret (v:=.tuple #[kvV p0 ks0,.int .i64 3]) (by simp[results,Tryz.results8,go_sem,r0,r1,r2,r3,r4,r5,r6,r7,r8,r9,p0,ks0]) rfl ?_
          rw[HRE.out]
          exact⟨p0,rfl,F.out.2.1,F.out.2.2⟩
         refine consH (fun K hK=>?_) AllReadyH.nil
         go_simp
         refine hK.out _ _ (hHeld) (fun hHeld=>?_)
         clear hK K
         try simp only[Act.put,sA,sB,sC]
         refine takH 6 ?_
         refine takH 8 ?_
         refine doneH ?_
         have X3:=hid (X2.out.step (hHeld))
         clear hHeld e0 e1 e2 e3 f0 f1 f2 f3 KN KL X2
         have V4:=hid X3.out.po
         clear X3 OL
         have HRE:=hid (HRE0.out)
         have F0:=V4.out.fin (p:=p0) (x:=ks0) (kr0 _)
         dsimp only[us10,stk,p0,ks0] at F0
         have F:=hid F0
         obtain⟨g0,g1,g2,g3,g4,g5,g6,g7,g8,g9⟩:=kfree V4.out.res
         obtain⟨i0,i1,i2,i3,i4,i5,i6,i7,i8,i9⟩:=kget V4.out.res
         clear F0
         go_wp2
         (try rw[Exit.noGoto_ret])
         obtain⟨r0,r1,r2,r3,r4,r5,r6,r7,r8,r9⟩:=kget F.out.1
         refine bodyPost_ret (v:=.tuple #[kvV p0 ks0,.int .i64 3]) (by simp[results,Tryz.results8,go_sem,r0,r1,r2,r3,r4,r5,r6,r7,r8,r9,p0,ks0]) rfl ?_
         rw[HRE.out]
         exact⟨p0,rfl,F.out.2.1,F.out.2.2⟩
   · have HRE0:=hid (show R=(ks0,3) from HX2.out.trans (if_pos (by simpa using hbe)))
     have hne2:(be != 0)=true:=by simpa using hbe
     obtain⟨l,room,fuse,off⟩:=d
     simp only at HR X0
     clear hrng HX2 HL0 KR0 HBB HLS KL0 HC0 HY0 hbe
     go_enter Tryz.func8,Tryz.ntmps8
     go_upto_region 1 with (fail)
     generalize ((w.alloc (.cells #[.slice A n c,.int .i64 room,.int .i64 fuse,.bool off] 24)).alloc (.cells #[.slice none 0 0,.int .i64 0,.int .i64 0,.bool false,.int .i64 0,.int .i64 0,.int .i64 0,.slice none 0 0,.slice none 0 0,.bool false] 32))=W at X0 ⊢
     obtain⟨⟨e0,e1,e2,e3⟩,f0,f1,f2,f3⟩:=X0.out.db.get4
     go_wp2_with fail
     refine(HR.out _ X0.out.dsk.files).mono ?_
     rintro e w1 ⟨rfl,q1⟩
     clear e0 e1 e2 e3 f0 f1 f2 f3
     go_wp2_with fail
     refine(KT.out _).mono ?_
     rintro e w2 ⟨rfl,q2⟩
     have X1:=hid ((X0.out.step q1).step q2)
     clear q1 q2 X0 KT HR
     have HRE:=hid (HRE0.out)
     have F0:=X1.out.fin (p:=p0) (x:=ks0) (kr0 _)
     dsimp only[us10,stk,p0,ks0] at F0
     have F:=hid F0
     obtain⟨g0,g1,g2,g3,g4,g5,g6,g7,g8,g9⟩:=kfree X1.out.res
     obtain⟨i0,i1,i2,i3,i4,i5,i6,i7,i8,i9⟩:=kget X1.out.res
     clear F0
     go_wp2
     (try rw[Exit.noGoto_ret])
     obtain⟨r0,r1,r2,r3,r4,r5,r6,r7,r8,r9⟩:=kget F.out.1
     refine bodyPost_ret (v:=.tuple #[kvV p0 ks0,.int .i64 3]) (by simp[results,Tryz.results8,go_sem,r0,r1,r2,r3,r4,r5,r6,r7,r8,r9,p0,ks0]) rfl ?_
     rw[HRE.out]
     exact⟨p0,rfl,F.out.2.1,F.out.2.2⟩
 · rw [if_pos hme] at hbeg
   subst hbeg
   have HX3:=hid (show R=opnB d 1 0 (loadS d.fs 0) from HX.out.trans ((HA.out _).trans (if_neg (by simp))))
   have HL:=hid (HL0.out 1)
   have KR:=hid (KR0.out 1 ⟨by omega,by omega⟩)
   have HB3:=hid (HBB.out 1 0)
   have hls:=HLS.out 0
   rw[if_pos rfl] at hls
   clear hrng HL0 KR0 HBB HX HA HLS KL0 HC0 HY0
   generalize recM d 1=rc at HL KR HB3
   obtain⟨⟨l2,room2,fuse2,off2⟩,rs,last,er⟩:=rc
   obtain⟨l,room,fuse,off⟩:=d
   simp only at HL KR HB3 HX3 X0 HR hls
   have HRR:=hid (show R=opnC 1 0 ⟨[],[]⟩ (⟨l2,room2,fuse2,off2⟩,rs,last,er) from HX3.out.trans (by rw[hls];exact(HB3.out _).trans (if_neg (by simp))))
   have HK:Hid ((([]:List Prm.Pr).length≤1073741824)∧(([]:List Prm.Pr).length≤1073741824)∧KeysIn []∧KeysIn []):=hid ⟨Nat.zero_le _,Nat.zero_le _,(by intro p hp;cases hp),(by intro p hp;cases hp)⟩
   obtain⟨s,hs⟩:∃ s:Bm.Sta,s=⟨[],[]⟩:=⟨_,rfl⟩
   rw[←hs] at HRR
   have HK:Hid (s.data.length≤1073741824∧s.toks.length≤1073741824∧KeysIn s.data∧KeysIn s.toks):=hid (by rw[hs];exact HK.out)
   have HSN:=hid hs
   have hne2:(me == 0)=false:=by simpa using hme
   clear hls HX3 HB3 hs KT hme
   go_enter Tryz.func8,Tryz.ntmps8
   go_upto_region 1 with (fail)
   generalize ((w.alloc (.cells #[.slice A n c,.int .i64 room,.int .i64 fuse,.bool off] 24)).alloc (.cells #[.slice none 0 0,.int .i64 0,.int .i64 0,.bool false,.int .i64 0,.int .i64 0,.int .i64 0,.slice none 0 0,.slice none 0 0,.bool false] 32))=W at X0 ⊢
   obtain⟨⟨e0,e1,e2,e3⟩,f0,f1,f2,f3⟩:=X0.out.db.get4
   go_wp2_with fail
   refine(HR.out _ X0.out.dsk.files).mono ?_
   rintro e w1 ⟨rfl,q1⟩
   clear e0 e1 e2 e3 f0 f1 f2 f3
   have X1:=hid (X0.out.step q1)
   clear q1 X0 HR
   have X2:=hid (Ps.new (s:=⟨[],[]⟩) X1.out (In_.none_ pairK _) (In_.none_ pairK _))
   go_upto_region 11 with (fail)
   generalize w1.alloc (.cells #[.slice none 0 0,.slice none 0 0] 30)=W2 at X2 ⊢
   generalize w1.heap.size=g at X2 ⊢
   have X2:=hid (show Ps w A n c ⟨l,room,fuse,off⟩ g none 0 0 none 0 0 s W2 by rw[HSN.out];exact X2.out)
   clear X1 HSN
   obtain⟨⟨e0,e1,e2,e3⟩,f0,f1,f2,f3⟩:=X2.out.po.db.get4
   go_wp2_with fail
   refine(KR.out _ X2.out.po.dsk).mono ?_
   rintro e w3 ⟨A2,n2,c2,L,ln,lc,rfl,hd2,hf2,hl2,q3⟩
   have HG:=hid (show g+1≤w3.heap.size from Nat.lt_of_lt_of_le X2.out.sb.lt q3.size)
   have KB:=hid (Bx.new w3 [.slice A2 n2 c2,.int .i64 room2,.int .i64 fuse2,.bool off2] 24)
   have KB:Hid (Bx (w3.alloc (.cells #[.slice A2 n2 c2,.int .i64 room2,.int .i64 fuse2,.bool off2] 24)) w3.heap.size [.slice A2 n2 c2,.int .i64 room2,.int .i64 fuse2,.bool off2]):=KB
   have V:=hid (X2.out.step (q3.alloc (.cells #[.slice A2 n2 c2,.int .i64 room2,.int .i64 fuse2,.bool off2] 24)))
   have HD2:=hid (Dsk.q hd2 ((Q.refl w3).alloc (.cells #[.slice A2 n2 c2,.int .i64 room2,.int .i64 fuse2,.bool off2] 24)))
   have HS2:=hid ((hl2.lower (b2:=g+1) (X2.out.sb.lt)).q ((Q.refl w3).alloc (.cells #[.slice A2 n2 c2,.int .i64 room2,.int .i64 fuse2,.bool off2] 24)))
   clear q3 X2 hd2 hf2 hl2 e0 e1 e2 e3 f0 f1 f2 f3 KR
   go_upto_region 20 with (fail)
   generalize w3.alloc (.cells #[.slice A2 n2 c2,.int .i64 room2,.int .i64 fuse2,.bool off2] 24)=W3 at V KB HD2 HS2 ⊢
   generalize w3.heap.size=gk at KB HG ⊢
   by_cases her:er=0
   · subst her
     have HRR:=hid (show R=endM 1 0 (⟨l2,room2,fuse2,off2⟩,rs,last,0) (repM s rs) from HRR.out.trans (if_neg (by simp)))
     have HNl:=hid HS2.out.len
     have hlnb:ln≤1099511627776:=by have:=HNl.out;have:=HL.out.1;omega
     go_wp2
     go_loopw [20] (fun i wr=>∃ (j:Nat) (t:Bm.Sta) (B:Option Addr) (bn bc:Nat) (C:Option Addr) (cn cc:Nat),j≤ln∧i=.int .i64 j∧Ps w A n c ⟨l,room,fuse,off⟩ g B bn bc C cn cc t wr∧Bx wr gk [.slice A2 n2 c2,.int .i64 room2,.int .i64 fuse2,.bool off2]∧Dsk wr A2 n2 c2 l2∧OwnS wr (g+1) L ln lc rs∧repM s rs=repM t (rs.drop j)∧t.data.length+wsum (rs.drop j)≤s.data.length+wsum rs∧t.toks.length≤s.toks.length+j∧KeysIn t.data∧KeysIn t.toks) (fun i _=>ln - (intOf i).toNat)
     case atStart=>exact⟨0,s,_,_,_,_,_,_,Nat.zero_le _,rfl,V.out,KB.out,HD2.out,HS2.out,rfl,Nat.le_refl _,Nat.le_refl _,HK.out.2.2.1,HK.out.2.2.2⟩
     case round =>
      obtain⟨j,t,B1,n1,c1,C1,m1,d1,hj,rfl,v1,kb1,hd1,hs1,hM,hl1,hl2,hk1,hk2⟩:=hrel
      have V1:=hid v1
      have KB1:=hid kb1
      have HD1:=hid hd1
      have HS1:=hid hs1
      have HM:=hid hM
      have HL1:=hid hl1
      have HL2:=hid hl2
      have HK1:=hid hk1
      have HK2:=hid hk2
      clear v1 kb1 hd1 hs1 hM hl1 hl2 hk1 hk2 V KB HD2 HS2
      by_cases hlt:j<ln
      · have hjl:j<rs.length:=by have:=HNl.out;omega
        have hjn:(j:Int)<(ln:Int):=by omega
        have hsz:=HL.out.2.2 rs[j] (List.getElem_mem hjl)
        obtain⟨ad,rfl,hab,hc⟩:=HS1.out.strs.load hjl
        have HDD:=hid (fun y hy=>HM.out.trans (repM_at (t:=t) hjl (y:=y) hy))
        have HW:=hid (wsum_drop hjl)
        have htw:=take_wkeys rs[j]
        generalize rs[j]=r0 at hsz hc HDD HW htw
        have KT:=hid (fun W=>refTakeB_any (bs r0) W (by rw[bs_size];unfold maxLen;omega))
        simp only[list_bs] at KT
        have HDD:=hid (HDD.out _ rfl)
        generalize Bm.take r0=y at KT HDD HW htw
        generalize bs r0=r at hc KT
        clear hsz
        obtain⟨⟨k,tok,ws⟩,eb⟩:=y
        simp only at KT HDD HW htw
        have HTW:=hid htw
        clear htw
        by_cases he:eb=0
        · subst he
          have HDD:=hid (HDD.out.trans (if_neg (by simp)))
          go_wp2_with fail
          refine(KT.out _).mono ?_
          rintro e w4 ⟨D,dc,rfl,o2,q4⟩
          simp only at o2
          have ZB:=hid (Bx.new w4 [.int .i64 k,.string tok,.slice D ws.length dc] 48)
          have ZB:Hid (Bx (w4.alloc (.cells #[.int .i64 k,.string tok,.slice D ws.length dc] 48)) w4.heap.size [.int .i64 k,.string tok,.slice D ws.length dc]):=ZB
          have QA:=hid (q4.alloc (.cells #[.int .i64 k,.string tok,.slice D ws.length dc] 48))
          have ZW:=hid (o2.lst.q ((Q.refl w4).alloc (.cells #[.int .i64 k,.string tok,.slice D ws.length dc] 48)))
          clear o2 q4
          go_upto_region 26 with (fail)
          generalize (w4.alloc (.cells #[.int .i64 k,.string tok,.slice D ws.length dc] 48))=W4 at ZB QA ZW ⊢
          generalize w4.heap.size=gb at ZB ⊢
          have V4:=hid (V1.out.step QA.out)
          have HS4:=hid (HS1.out.q QA.out)
          have HD4:=hid (HD1.out.q QA.out)
          have KB4:=hid (KB1.out.q QA.out)
          clear V1 HS1 HD1 KB1 QA
          obtain⟨⟨e0,e1⟩,f0,f1⟩:=V4.out.sb.get2
          obtain⟨b0,b1,b2⟩:=ZB.out.get3.1
          have KD:=hid (fun W (hA:In_ pairK W B1 n1 c1 t.data) (hB:In_ pairK W C1 m1 d1 t.toks) (hC:Lst writeK W D ws.length ws)=>refDo_any k tok B1 C1 D n1 c1 m1 d1 ws.length dc t.data t.toks ws W hA hB hC (by have:=HTW.out.2.2;unfold maxLen;omega) (by have:=HL1.out;have:=HK.out.1;have:=HL.out.2.1;have:=hA.len;omega) (by have:=HL2.out;have:=HK.out.2.1;have:=HL.out.1;have:=hB.len;omega) HK1.out HK2.out HTW.out.1 HTW.out.2.1)
          have hdl:=Bm.doo_lenW t ⟨k,tok,ws⟩
          have hkk:=doo_keys (s:=t) (b:=⟨k,tok,ws⟩) HK1.out HK2.out HTW.out.1 HTW.out.2.1
          rw[show (⟨t.data,t.toks⟩:Bm.Sta)=t from rfl] at KD
          generalize Bm.doo t ⟨k,tok,ws⟩=z at KD HDD hdl hkk
          obtain⟨z,ze⟩:=z
          simp only at KD HDD hdl hkk
          have HDL:=hid hdl
          have HKK:=hid hkk
          clear hdl hkk
          go_wp2_with fail
          refine(KD.out _ V4.out.data V4.out.toks ZW.out).mono ?_
          rintro e w5 ⟨A5,n5,c5,B5,m5,d5,rfl,i5,i6,q5⟩
          have V5:=hid (V4.out.step q5)
          have V6:=hid (V5.out.set (s':=z) i5 i6)
          have HS6:=hid ((HS4.out.q q5).two (g:=g) (Nat.lt_succ_self g) (.slice A5 n5 c5) (.slice B5 m5 d5))
          have HD6:=hid ((HD4.out.q q5).stk V5.out.sb (nt2 _ _ _ _ _ _) _ (us2_ok A5 n5 c5 B5 m5 d5 (Value.slice B1 n1 c1) (.slice C1 m1 d1)))
          have KB6:=hid ((KB4.out.q q5).far2 (c:=g) (by have:=HG.out;omega) (.slice A5 n5 c5) (.slice B5 m5 d5))
          clear V4 HS4 HD4 KB4 ZB ZW i5 i6 q5 e0 e1 f0 f1 b0 b1 b2
          obtain⟨⟨e0,e1⟩,f0,f1⟩:=V5.out.sb.get2
          clear V5
          go_wp2
          go_roundw
          case rel=>exact⟨j+1,z,A5,n5,c5,B5,m5,d5,by omega,by go_num,V6.out,KB6.out,HD6.out,HS6.out,HDD.out,by have:=HDL.out.1;have:=HL1.out;have:=HW.out;(try simp only at *);omega,by have:=HDL.out.2;have:=HL2.out;(try simp only at *);omega,HKK.out.1,HKK.out.2⟩
          case measure=>simp[intOf];omega
        · have HDD:=hid (HDD.out.trans (if_pos (by simpa using he)))
          have hne:((eb:Int) != 0)=true:=by simp;omega
          go_wp2_with fail
          refine(KT.out _).mono ?_
          rintro e w4 ⟨D,dc,rfl,o2,q4⟩
          have QA:=hid (q4.alloc (.cells #[.int .i64 k,.string tok,.slice D ws.length dc] 48))
          clear o2 q4
          go_upto_region 26 with (fail)
          generalize (w4.alloc (.cells #[.int .i64 k,.string tok,.slice D ws.length dc] 48))=W4 at QA ⊢
          have V4:=hid (V1.out.step QA.out).po
          clear V1 HS1 HD1 KB1 QA
          have HRE:=hid (show R=(ks0,3) from HRR.out.trans (by rw[HDD.out];rfl))
          have F0:=V4.out.fin (p:=p0) (x:=ks0) (kr0 _)
          dsimp only[us10,stk,p0,ks0] at F0
          have F:=hid F0
          obtain⟨g0,g1,g2,g3,g4,g5,g6,g7,g8,g9⟩:=kfree V4.out.res
          obtain⟨i0,i1,i2,i3,i4,i5,i6,i7,i8,i9⟩:=kget V4.out.res
          clear F0
          go_wp2
          (try rw[Exit.noGoto_ret])
          obtain⟨r0,r1,r2,r3,r4,r5,r6,r7,r8,r9⟩:=kget F.out.1
          refine bodyPost_ret (v:=.tuple #[kvV p0 ks0,.int .i64 3]) (by simp[results,Tryz.results8,go_sem,r0,r1,r2,r3,r4,r5,r6,r7,r8,r9,p0,ks0]) rfl ?_
          rw[HRE.out]
          exact⟨p0,rfl,F.out.2.1,F.out.2.2⟩
      · have e:ln=j:=by omega
        have hall:rs.drop j=[]:=List.drop_eq_nil_of_le (by have:=HNl.out;omega)
        have HDD:=hid (HM.out.trans (by rw[hall,repM_nil]))
        have hnk:¬ (j:Int)<(ln:Int):=by omega
        clear hall e
        have HRE:=hid (show R=(⟨⟨l2,room2,fuse2,off2⟩,1,last,0,t,false⟩,0) from HRR.out.trans (by rw[HDD.out];rfl))
        have F0:=V1.out.po.fin (p:=⟨A2,n2,c2,B1,n1,c1,C1,m1,d1⟩) (x:=⟨⟨l2,room2,fuse2,off2⟩,1,last,0,t,false⟩) ⟨HD1.out,V1.out.data,V1.out.toks⟩
        dsimp only[us10,stk] at F0
        have F:=hid F0
        obtain⟨⟨e0,e1,e2,e3⟩,f0,f1,f2,f3⟩:=KB1.out.get4
        obtain⟨⟨s0,s1⟩,t0,t1⟩:=V1.out.sb.get2
        obtain⟨g0,g1,g2,g3,g4,g5,g6,g7,g8,g9⟩:=kfree V1.out.po.res
        obtain⟨i0,i1,i2,i3,i4,i5,i6,i7,i8,i9⟩:=kget V1.out.po.res
        clear F0
        go_wp2
        (try rw[Exit.noGoto_ret])
        obtain⟨r0,r1,r2,r3,r4,r5,r6,r7,r8,r9⟩:=kget F.out.1
        refine bodyPost_ret (v:=.tuple #[kvV ⟨A2,n2,c2,B1,n1,c1,C1,m1,d1⟩ ⟨⟨l2,room2,fuse2,off2⟩,1,last,0,t,false⟩,.int .i64 0]) (by simp[results,Tryz.results8,go_sem,r0,r1,r2,r3,r4,r5,r6,r7,r8,r9]) rfl ?_
        rw[HRE.out]
        exact⟨_,rfl,F.out.2.1,F.out.2.2⟩
   · have hne:(er != 0)=true:=by simpa using her
     have V4:=hid V.out.po
     have HRE:=hid (show R=(ks0,er) from HRR.out.trans (if_pos her))
     have F0:=V4.out.fin (p:=p0) (x:=ks0) (kr0 _)
     dsimp only[us10,stk,p0,ks0] at F0
     have F:=hid F0
     obtain⟨g0,g1,g2,g3,g4,g5,g6,g7,g8,g9⟩:=kfree V4.out.res
     obtain⟨i0,i1,i2,i3,i4,i5,i6,i7,i8,i9⟩:=kget V4.out.res
     clear F0
     go_wp2
     (try rw[Exit.noGoto_ret])
     obtain⟨r0,r1,r2,r3,r4,r5,r6,r7,r8,r9⟩:=kget F.out.1
     refine bodyPost_ret (v:=.tuple #[kvV p0 ks0,.int .i64 er]) (by simp[results,Tryz.results8,go_sem,r0,r1,r2,r3,r4,r5,r6,r7,r8,r9,p0,ks0]) rfl ?_
     rw[HRE.out]
     exact⟨p0,rfl,F.out.2.1,F.out.2.2⟩
end
end Go.Proofs.YtccoknaaofmbcaaGreatDoor
