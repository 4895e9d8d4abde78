/- WalRefScan, Odd, WalRefDrop, WalRefCut, WalRefRec, Concat, ConcatP, BatchPairs, BatchBackRef: merged. -/
import Derived.Test.YtccoknaaofmbcaaGreatDoorO12
import Derived.Test.YtccoknaaofmbcaaGreatDoorO8
import Derived.Test.YtccoknaaofmbcaaGreatDoorO7
import Derived.Test.YtccoknaaofmbcaaGreatDoorO5
import Derived.Test.YtccoknaaofmbcaaGreatDoorO2
import Derived.Test.YtccoknaaofmbcaaGreatDoorO13
import Derived.Test.YtccoknaaofmbcaaGreatDoorO6
import Derived.Test.YtccoknaaofmbcaaGreatDoorO11
import Derived.Test.YtccoknaaofmbcaaGreatDoorO9
import Derived.Test.YtccoknaaofmbcaaGreatDoorO10
set_option linter.unusedVariables false
set_option linter.unusedSimpArgs false
set_option maxRecDepth 100000
set_option maxHeartbeats 16000000
open Go.Lib (hid)
namespace Go.Proofs.YtccoknaaofmbcaaGreatDoor
section
open Go.RowKit
theorem wpl_appS {w:World}{ops:Array Oper}{rest:List Oper}{o:Oper}{a:Act}{R:Exit→Act→World→Prop}(hgd:o.guard=none)(s x:Operand)
  (ho:o.op=.call { callee:=.builtin .append,args:=#[s,x],argTypes:=#[87, 87] })
  (base:Nat) (A:Option Addr) (n c:Nat) (l:List (List UInt8)) (hs:a.eval s=.slice A n c) (h:OwnS w base A n c l) (ad:Addr) (c2:Nat) (r:ByteArray) (hx:a.eval x=.slice (some ad) 1 c2) (h2:w.cell? ad=some (.string r))
  (hb:(n+1)*16≤140737488355328) (hbase:base≤w.heap.size)
  (hk:∀ A' c' w',OwnS w' base A' (n+1) c' (l++[r.data.toList])→Below base w w'→wpList Tryz.prog ops R rest (a.put o.dst (.slice A' (n+1) c')) w'):wpList Tryz.prog ops R (o :: rest) a w:=by
 refine wpList_plain hgd fun K hK=>?_
 obtain⟨A',c',w',hr,h3,h4,h5⟩:=run_appG (P:=Tryz.prog) (w:=w) base 87 o.type 9 (.string ⟨#[]⟩) 1 16 Tryz.underlying87 infoS rfl (by omega) A n c _ h (some ad) 1 c2 [.string r] rfl
   (fun j u hu=>by
     have hj:=(List.getElem?_eq_some_iff.1 hu).1
     simp at hj
     subst hj
     simp at hu
     subst hu
     exact⟨ad,rfl,by unfold Addr.add;simpa using h2⟩) (by simp[Value.oneCell']) (fun e=>by cases e) (by unfold maxLen;omega) hb hbase
 unfold Oper.wp execOp
 simp only[ho,resolve,invoke,builtin,Sem.run_bind,Sem.run_pure,Result.andThen_ok,List.map_toArray,List.map_cons,List.map_nil,hs,hx,hr]
 refine hK _ _ (hk A' c' w' (by unfold OwnS;rw[List.map_append];exact h3) (below_grown h4 hbase fun k hk=>?_))
 rcases h.2 with ⟨e,_⟩ | ⟨g,cap,cur,e,hb,_⟩
 · rw[e] at hk;cases hk
 · rw[e] at hk;simp only[Value.ownBlock,Option.some.injEq] at hk;omega
theorem refName_any (seg:Int)(w:World)(h0:-9223372036854775808≤seg)(h1:seg≤9223372036854775807):Calls Tryz.prog 75 #[.int .i64 seg] w fun e w'=>e=.returned (.string (namB seg))∧Q w w':=by
 by_cases h2:seg<1
 · rw[namB_no (by unfold segOk;omega)]
   go_enter Tryz.func75,Tryz.ntmps75
   go_wp2
   go_ret
   exact⟨rfl,Q.refl _⟩
 by_cases h3:1000000<seg
 · rw[namB_no (by unfold segOk;omega)]
   go_enter Tryz.func75,Tryz.ntmps75
   go_wp2
   go_ret
   exact⟨rfl,Q.refl _⟩
 have h:segOk seg:=by unfold segOk;omega
 have hN:=hid (fun w=>refNum_any seg w (by omega) (by omega))
 have hl:=Dm.dg_length_lt 7 seg.toNat (by omega) (by omega)
 have hsz:(⟨(Dm.num seg.toNat).toArray⟩:ByteArray).size=(Dm.dg seg.toNat).length+1:=by show (Dm.num seg.toNat).toArray.size=_;simp[Dm.num]
 have hex:(⟨#[119]⟩:ByteArray)++(⟨(Dm.num seg.toNat).toArray⟩:ByteArray).extract 0 (Dm.dg seg.toNat).length=namB seg:=by
  rw[extract_list]
  unfold namB
  rw[nam_ok h,app_lists [119]]
  simp[Dm.num]
 generalize (⟨(Dm.num seg.toNat).toArray⟩:ByteArray)=R at hN hsz hex
 generalize (Dm.dg seg.toNat).length=m at hl hsz hex
 have HE:=hid hex
 have hR:R.size≤8:=by omega
 have hm:(R.size:Int) - 1=(m:Int):=by omega
 have hmR:m≤R.size:=by omega
 have h0':0≤(R.size:Int) - 1:=by omega
 have hmN:R.size - 1=m:=by omega
 have HM:=hid hmN
 clear hex hsz h hm hmN
 go_enter Tryz.func75,Tryz.ntmps75
 go_wp2_with fail
 refine(hN.out _).mono ?_
 rintro e w1 ⟨rfl,q1⟩
 go_wp2
 go_ret
 refine⟨?_,q1⟩
 rw[←HE.out,←HM.out]
 rfl
theorem used_at {us vs:List (List UInt8)}{l:List UInt8}(h:(scn l).1=us++vs):l=flat us++(flat vs++(scn l).2):=by
 conv=>lhs;rw[(scd l).eq]
 rw[h,flat_app,List.append_assoc]
theorem refScan_any (s:ByteArray)(w:World)(hs:s.size≤maxLen)(hbig:(scn s.data.toList).1.length*16≤140737488355328) :
  Calls Tryz.prog 76 #[.string s] w fun e w'=>∃ A n c,e=.returned (.tuple #[.slice A n c,.int .i64 (used s.data.toList)])∧OwnS w' w.heap.size A n c (scn s.data.toList).1∧Q w w':=by
 have HS:=hid hs
 have HB:=hid hbig
 have hs0:s.size≤9223372036854775807:=by unfold maxLen at hs;omega
 clear hbig
 go_enter Tryz.func76,Tryz.ntmps76
 go_wp2
 go_loopw [4,5] (fun v i wr=>∃ us vs A c,(scn s.data.toList).1=us++vs∧i=.int .i64 ((flat us).length:Nat)∧v=.slice A us.length c∧OwnS wr w.heap.size A us.length c us∧Q w wr) (fun _ i _=>s.size - (intOf i).toNat)
 case atStart=>exact⟨[],(scn s.data.toList).1,none,0,rfl,rfl,rfl,ownS_nil _ _,Q.refl _⟩
 case round =>
  obtain⟨us,vs,A,c,hx,rfl,rfl,ho,hq⟩:=hrel
  have hl:=used_at hx
  have hno:=(scd s.data.toList).no
  have hle:=(scd s.data.toList).le
  have huf:=used_flat s.data.toList
  have hln:=congrArg List.length hl
  rw[size_list,List.length_append] at hln
  have hux:=hx
  rw[hx] at huf hle
  have hbig2:(us.length+1)*16≤140737488355328∨vs=[]:=by
   cases vs with
   | nil=>exact .inr rfl
   | cons r vs=>left;have h1:=HB.out;rw[hx,List.length_append,List.length_cons] at h1;omega
  have hdrop:s.data.toList.drop (flat us).length=flat vs++(scn s.data.toList).2:=by
   conv=>lhs;rw[hl]
   exact List.drop_left' rfl
  have hex:(s.extract (flat us).length s.size).data.toList=flat vs++(scn s.data.toList).2:=by
   rw[extract_list,←hdrop]
   show (s.data.toList.take s.size).drop _=_
   rw[List.take_of_length_le (by rw[size_list];omega)]
  have HU:=hid hux
  have HO:=hid ho
  have HQ:=hid hq
  clear hx hl hux ho hq
  obtain⟨t,ht⟩:∃ t,t=(scn s.data.toList).2:=⟨_,rfl⟩
  obtain⟨k,hk⟩:∃ k,k=(flat us).length:=⟨_,rfl⟩
  rw[←ht] at hno hex hdrop hln
  rw[←hk] at hex hdrop hln ⊢
  have HK:=hid hk
  have HT:=hid ht
  have HX:=hid hex
  clear ht hk hex hdrop
  by_cases hlt:k<s.size
  case neg =>
   have hz:(flat vs++t).length=0:=by omega
   have hv:vs=[]:=by
    cases vs with
    | nil=>rfl
    | cons r vs=>rw[flat_cons,List.append_assoc,List.length_append] at hz;have:=sld_four r;omega
   subst hv
   have hfin:(scn s.data.toList).1=us:=by rw[HU.out,List.append_nil]
   have HF:=hid hfin
   have hk2:(used s.data.toList:Int)=(k:Int):=by rw[used_flat,hfin,HK.out]
   have HK2:=hid hk2
   clear hfin hk2 hz huf hle hln hno hbig2
   go_wp2
   go_ret2
   refine⟨A,us.length,c,by rw[HK2.out];rfl,by rw[HF.out];exact HO.out,HQ.out⟩
  have hEs:(s.extract k s.size).size=s.size - k:=by rw[ByteArray.size_extract];omega
  have KO:=hid (fun w=>refOpen_any (s.extract k s.size) 2048 w (by have:=HS.out;omega) (by omega) (by omega))
  rw[HX.out] at KO
  cases vs with
  | nil =>
    rw[flat_nil,List.nil_append] at KO
    have hfin:(scn s.data.toList).1=us:=by rw[HU.out,List.append_nil]
    have HF:=hid hfin
    have hk2:(used s.data.toList:Int)=(k:Int):=by rw[used_flat,hfin,HK.out]
    have HK2:=hid hk2
    generalize topen t 2048=r at KO hno
    obtain⟨x,y,er⟩:=r
    simp only[ttR] at KO
    have hne:¬ ((er:Int)=0):=by simpa using hno
    clear hfin hk2 huf hle hln hno hbig2
    go_wp2_with fail
    refine(KO.out _).mono ?_
    rintro e w2 ⟨rfl,q2⟩
    go_wp2
    go_ret2
    refine⟨A,us.length,c,by rw[HK2.out];rfl,by rw[HF.out];exact HO.out.q q2,HQ.out.trans q2⟩
  | cons r vs =>
    have hr:r.length≤2048:=hle r (by simp)
    rw[flat_cons,List.append_assoc,open_one r _ hr] at KO
    simp only[ttR] at KO
    have h4:=sld_four r
    have hb:(us.length+1)*16≤140737488355328:=hbig2.resolve_right (by simp)
    rw[flat_cons,List.append_assoc,List.length_append] at hln
    obtain⟨T,hT⟩:∃ T:ByteArray,T=bs (flat vs++t):=⟨_,rfl⟩
    have hTs:T.size=(flat vs++t).length:=by rw[hT,bs_size]
    change Hid (∀ w,Calls _ _ _ w fun e w'=>e=.returned (.tuple #[.string (bs r),.string (bs (flat vs++t)),.int .i64 0])∧Q w w') at KO
    rw[←hT] at KO
    have hTle:T.size≤s.size:=by omega
    have hnew:(s.size:Int) - (T.size:Int)=((k+(sld r).length:Nat):Int):=by omega
    have hwr:wrap64 ((s.size:Int) - (T.size:Int))=((k+(sld r).length:Nat):Int):=by rw[hnew];unfold wrap64;omega
    have HW:=hid hnew
    have hbw:w.heap.size≤wr.heap.size:=HQ.out.size
    have hk9:k+(sld r).length≤s.size:=by omega
    have hk8:k<k+(sld r).length:=by omega
    have HK9:=hid (And.intro hk9 hk8)
    clear hT hTs hnew hwr huf hle hln hno hbig2 h4 hr
    go_wp2_with fail
    refine(KO.out _).mono ?_
    rintro e w2 ⟨rfl,q2⟩
    have hb2:w.heap.size≤w2.heap.size:=Nat.le_trans hbw q2.size
    have HO2:=hid (HO.out.q q2)
    have HQ2:=hid (HQ.out.trans q2)
    clear q2
    go_wp2_with (at_builtin
                 refine wpl_appS rfl (.tmp 25) (.tmp 27) rfl w.heap.size A us.length c us rfl (HO2.out.q ((Q.refl _).alloc _)) ⟨w2.heap.size,0,none⟩ 1 (bs r) rfl (by have:=Bx.new w2 [.string (bs r)] 9;exact(this 0 _ rfl).1) hb (by simp;omega) ?_
                 intro A3 c3 w3 ho3 hb3)
    go_roundw
    case rel =>
     refine⟨us++[r],vs,A3,c3,by rw[HU.out];simp,?_,by simp,by simpa [list_bs] using ho3,(HQ2.out.alloc (.cells #[.string (bs r)] 9)).below.trans hb3⟩
     rw[HW.out,flat_app,flat_cons,flat_nil,HK.out];simp
    case measure =>
     rw[HW.out];simp only[intOf]
     have:=HK9.out
     omega
end
section
open Go.RowKit Dkm
def NoTx (w:World)(p:Addr):Prop:=∃ u,w.cell? p=some u∧∀ s,u≠.string s
theorem NoTx.set {w:World}{p q:Addr}(h:NoTx w p)(hne:q≠p)(v:Value):NoTx (w.setCell q v) p:=by
 obtain⟨u,h1,h2⟩:=h
 exact⟨u,(World.cell?_setCell_other _ _ _ _ hne).trans h1,h2⟩
theorem Holds.odd {w:World}{B k:Nat}{A:Option Addr}{n:Nat}{xs:List Value}(h:Holds w B k A n xs)(hx:∀ u∈xs,∃ s,u=.string s){p:Addr}(hp:NoTx w p)(v:Value):Holds (w.setCell p v) B k A n xs:=
 ⟨h.1,fun j u hj=>by
   obtain⟨ad,e,hb,hc⟩:=h.2 j u hj
   refine⟨ad,e,hb,?_⟩
   have hne:p≠ad.add j:=by
    intro e2
    obtain⟨u2,h1,h2⟩:=hp
    rw[e2,hc] at h1
    injection h1 with h1
    obtain⟨s,rfl⟩:=hx u (List.mem_of_getElem? hj)
    exact h2 s h1.symm
   rw[World.cell?_setCell_other _ _ _ _ hne]
   exact hc⟩
theorem rows_tx (l:List Fil):∀ u∈rows l,∃ s,u=Value.string s:=by
 induction l with
 | nil=>intro u hu;cases hu
 | cons f l ih =>
   intro u hu
   rcases List.mem_append.1 hu with hu | hu
   · rcases List.mem_cons.1 hu with rfl | hu
     · exact⟨_,rfl⟩
     rcases List.mem_cons.1 hu with rfl | hu
     · exact⟨_,rfl⟩
     rcases List.mem_cons.1 hu with rfl | hu
     · exact⟨_,rfl⟩
     · cases hu
   · exact ih u hu
theorem Dsk.odd {w:World}{A:Option Addr}{n c:Nat}{l:List Fil}(h:Dsk w A n c l){p:Addr}(hp:NoTx w p)(v:Value):Dsk (w.setCell p v) A n c l:=by
 refine⟨?_,h.nil,h.le,h.cap,h.few⟩
 have:=Holds.odd h.files (rows_tx l) hp v
 rw[show w.heap.size=(w.setCell p v).heap.size by simp[World.setCell]] at this
 exact this
theorem Dsk.odd4 {w:World}{A:Option Addr}{n c:Nat}{l:List Fil}(h:Dsk w A n c l){g:Nat}{x0 x1 x2 x3:Value}(hb:Bx w g [x0,x1,x2,x3])(hx:∀ u∈[x0,x1,x2,x3],∀ s,u≠Value.string s)(y0 y1 y2 y3:Value) :
  Dsk ((((w.setCell ⟨g,0,none⟩ y0).setCell ⟨g,1,none⟩ y1).setCell ⟨g,2,none⟩ y2).setCell ⟨g,3,none⟩ y3) A n c l:=by
 have h0:∀ k (hk:k<4),NoTx w ⟨g,k,none⟩:=fun k hk=>⟨[x0,x1,x2,x3][k],(hb k _ (List.getElem?_eq_getElem hk)).1,hx _ (List.getElem_mem _)⟩
 have n0:=h0 0 (by omega)
 have n1:=(h0 1 (by omega)).set (q:=⟨g,0,none⟩) (by simp) y0
 have n2:=((h0 2 (by omega)).set (q:=⟨g,0,none⟩) (by simp) y0).set (q:=⟨g,1,none⟩) (by simp) y1
 have n3:=(((h0 3 (by omega)).set (q:=⟨g,0,none⟩) (by simp) y0).set (q:=⟨g,1,none⟩) (by simp) y1).set (q:=⟨g,2,none⟩) (by simp) y2
 exact(((h.odd n0 y0).odd n1 y1).odd n2 y2).odd n3 y3
end
section
open Go.RowKit Dkm Wm
def Cb (w:World)(A0:Option Addr)(n0:Nat)(r:Dk)(er:Int)(s11 s12:Value)(wx:World):Prop:=
 ∃ g A n c,s11=.pointer (some ⟨g,0,none⟩)∧s12=.int .i64 er∧w.heap.size≤g∧Bx wx g [.slice A n c,.int .i64 r.room,.int .i64 r.fuse,.bool r.off]∧Dsk wx A n c r.fs∧(A=A0∧n=n0∨∀ ad,A=some ad→w.heap.size≤ad.block)∧Q w wx
theorem Cb.mk {w W:World}{A0:Option Addr}{n0:Nat}{r:Dk}{er:Int}{A:Option Addr}{n c g:Nat}(q:Q w W)(hd:Dsk W A n c r.fs)(hf:A=A0∧n=n0∨∀ ad,A=some ad→w.heap.size≤ad.block)(hb:Bx W g [.slice none 0 0,.int .i64 0,.int .i64 0,.bool false])(hg:w.heap.size≤g) :
  Cb w A0 n0 r er (.pointer (some ⟨g,0,none⟩)) (.int .i64 er) ((((W.setCell ⟨g,0,none⟩ (.slice A n c)).setCell ⟨g,1,none⟩ (.int .i64 r.room)).setCell ⟨g,2,none⟩ (.int .i64 r.fuse)).setCell ⟨g,3,none⟩ (.bool r.off)):=
 ⟨g,A,n,c,rfl,rfl,hg,hb.put4 _ _ _ _,hd.odd4 hb (by intro u hu s e;subst e;simp at hu) _ _ _ _,hf,q.set4 hg _ _ _ _⟩
def Cf (w:World)(b:Bool)(s10:Value)(wx:World):Prop:=s10=.bool b∧Q w wx
end
section
open Go.RowKit Dkm Wm
def Cr (w:World)(A0:Option Addr)(n0:Nat)(x:Dk×Int)(s8:Value)(wx:World):Prop:=∃ A n c,s8=.int .i64 x.2∧Sv w A n c x.1 wx∧(A=A0∧n=n0∨Far w A)
theorem refCut_any (seg:Int)(s:ByteArray)(A:Option Addr)(n c:Nat)(d:Dk)(w:World)(hd:Dsk w A n c d.fs)(hB:Bnd 2305843009213693952 d)(hs:s.size≤2305843009213693952)(h1:segOk seg) :
  Calls Tryz.prog 77 #[dkv A n c d.room d.fuse d.off,.int .i64 seg,.string s] w fun e w'=>RetDK w A n (cutM d seg s).1 (cutM d seg s).2 e w':=by
 have B1:=hB.cut1
 have B2:=hB.cut2 (by omega) s
 have B3:=hB.cut3 (by omega) s
 have B4:=hB.cut4 (by omega) seg s
 have mx:∀ (d:Dk),Bnd 2305843009213693952 d→∀ f∈d.fs,f.sf.size+f.wt.size≤maxLen:=fun _ h f hf=>Nat.le_trans (h.sum f hf) (by unfold maxLen;omega)
 have C1:=hid (show cut1 d=if (hit freshB d.fs).2 then del d freshB else (d,0) from rfl)
 have C2:=hid (show cut2 d s=if (cut1 d).2=0 then appd (cut1 d).1 freshB s else cut1 d from rfl)
 have C3:=hid (show cut3 d s=if (cut2 d s).2=0 then syn (cut2 d s).1 freshB else cut2 d s from rfl)
 have C4:=hid (show cut4 d seg s=if (cut3 d s).2=0 then ren (cut3 d s).1 freshB (namB seg) else cut3 d s from rfl)
 have C5:=hid (show (if (cut4 d seg s).2=0 then dels (fuelOf (seg+1)) (cut4 d seg s).1 (seg+1) else cut4 d seg s)=cutM d seg s from rfl)
 generalize cutM d seg s=x5 at C5 ⊢
 generalize cut4 d seg s=x4 at C4 C5 B4
 generalize cut3 d s=x3 at C3 C4 B3
 generalize cut2 d s=x2 at C2 C3 B2
 generalize cut1 d=x1 at C1 C2 B1
 have KF:=hid (fun w hf=>ref_find freshB A n c d.room d.fuse d.off d.fs w hf hd.max)
 have KD:=hid (fun A n c w hd=>ref_del_any freshB A n c d w hd (mx _ hB) hB.fuse.2)
 have KA:=hid (fun A n c w hd=>ref_append_any freshB s A n c x1.1 w hd B1.sum hs B1.room.2 B1.fuse.2)
 have KY:=hid (fun A n c w hd=>ref_sync_any freshB A n c x2.1 w hd (mx _ B2))
 have KRN:=hid (fun A n c w hd=>ref_ren_any freshB (namB seg) A n c x3.1 w hd (mx _ B3) B3.fuse.2)
 have KN:=hid (fun W=>refName_any seg W (by have:=h1.1;omega) (by have:=h1.2;omega))
 have MX:=hid mx
 have HB4:=hid B4
 have X0:=hid (Sv.new w hd)
 have r0:=h1.1
 have r1:=h1.2
 clear hd hB hs h1 B1 B2 B3 B4 mx
 change Hid (∀ w,Files w A n d.fs→Calls _ _ #[dkv A n c d.room d.fuse d.off,.string ⟨#[119,46,110,101,119]⟩] w _) at KF
 generalize hit freshB d.fs=xh at KF C1
 obtain⟨⟨xn,xs,xt⟩,b⟩:=xh
 generalize del d freshB=xd at KD C1
 change Hid (∀ A n c w,Dsk w A n c d.fs→Calls _ _ #[dkv A n c d.room d.fuse d.off,.string ⟨#[119,46,110,101,119]⟩] w _) at KD
 change Hid (∀ A n c w,Dsk w A n c x1.1.fs→Calls _ _ #[dkv A n c x1.1.room x1.1.fuse x1.1.off,.string ⟨#[119,46,110,101,119]⟩,.string s] w _) at KA
 change Hid (∀ A n c w,Dsk w A n c x2.1.fs→Calls _ _ #[dkv A n c x2.1.room x2.1.fuse x2.1.off,.string ⟨#[119,46,110,101,119]⟩] w _) at KY
 change Hid (∀ A n c w,Dsk w A n c x3.1.fs→Calls _ _ #[dkv A n c x3.1.room x3.1.fuse x3.1.off,.string ⟨#[119,46,110,101,119]⟩,.string (namB seg)] w _) at KRN
 generalize namB seg=nmb at KN KRN C4
 go_enter Tryz.func77,Tryz.ntmps77
 go_wp2_with fail
 generalize (w.alloc (.cells #[.slice A n c,.int .i64 d.room,.int .i64 d.fuse,.bool d.off] 24)).alloc (.cells #[.slice none 0 0,.int .i64 0,.int .i64 0,.bool false] 24)=W at X0 ⊢
 refine(KF.out _ X0.out.dsk.files).mono ?_
 rintro e w1 ⟨rfl,q1⟩
 have X:=hid (X0.out.step (q1.alloc (.cells #[.string xn,.string xs,.string xt] 119)))
 clear q1 X0
 go_upto_if 19 with (fail)
 generalize w1.alloc (.cells #[.string xn,.string xs,.string xt] 119)=W1 at X ⊢
 go_cut [8] (fun s8 wx=>Cr w A n x1 s8 wx)
 case first =>
  cases b
  · go_wp2_with fail
    go_meet
    exact⟨A,n,c,by rw[C1.out];rfl,by rw[C1.out];exact X.out,.inl ⟨rfl,rfl⟩⟩
  · obtain⟨⟨e0,e1,e2,e3⟩,f0,f1,f2',f3⟩:=X.out.sb.get
    go_wp2_with fail
    refine(KD.out A n c _ X.out.dsk).mono ?_
    rintro e w2 ⟨A9,n9,c9,rfl,ho,hf,q2⟩
    have P:=hid (And.intro (X.out.putK (d5:=xd.1) q2 ho hf) (X.out.farK (.inl ⟨rfl,rfl⟩) hf))
    clear e0 e1 e2 e3 f0 f1 f2' f3
    obtain⟨⟨e0,e1,e2,e3⟩,f0,f1,f2',f3⟩:=(X.out.sb.step q2).get
    clear ho hf q2
    go_wp2_with fail
    go_meet
    exact⟨A9,n9,c9,by rw[C1.out];rfl,by rw[C1.out];exact P.out.1,P.out.2⟩
 case rest =>
  obtain⟨A1,n1,c1,rfl,v1,r1⟩:=hcut
  generalize wc=W1 at v1 ⊢
  have V1:=hid v1
  have R1:=hid r1
  clear v1 r1
  go_upto_if 26 with (fail)
  go_cut [8] (fun s8 wx=>Cr w A n x2 s8 wx)
  case first =>
   by_cases g:x1.2=0
   · have CC:=C2.out
     rw[if_pos g] at CC
     have HC0:=hid CC
     have i7:(x1.2 == 0)=true:=by simpa using g
     clear CC
     obtain⟨⟨e0,e1,e2,e3⟩,f0,f1,f2',f3⟩:=V1.out.sb.get
     go_wp2_with fail
     refine(KA.out _ _ _ _ V1.out.dsk).mono ?_
     rintro e w2 ⟨A9,n9,c9,rfl,ho,hf,q2⟩
     rw[←HC0.out] at ho
     have P:=hid (And.intro (V1.out.putK (d5:=x2.1) q2 ho hf) (V1.out.farK R1.out hf))
     clear e0 e1 e2 e3 f0 f1 f2' f3
     obtain⟨⟨e0,e1,e2,e3⟩,f0,f1,f2',f3⟩:=(V1.out.sb.step q2).get
     clear ho hf q2
     go_wp2_with fail
     go_meet
     exact⟨A9,n9,c9,by rw[HC0.out],by have:=P.out.1;rw[←HC0.out];exact this,P.out.2⟩
   · have CC:=C2.out
     rw[if_neg g] at CC
     have HC0:=hid CC
     have i7:(x1.2 == 0)=false:=by simpa using g
     clear CC
     go_wp2_with fail
     go_meet
     exact⟨_,_,_,by rw[HC0.out],by rw[HC0.out];exact V1.out,R1.out⟩
  case rest =>
   obtain⟨A2,n2,c2,rfl,v2,r2⟩:=hcut
   generalize wc=W2 at v2 ⊢
   have V2:=hid v2
   have R2:=hid r2
   clear v2 r2
   go_upto_if 34 with (fail)
   go_cut [8] (fun s8 wx=>Cr w A n x3 s8 wx)
   case first =>
    by_cases g:x2.2=0
    · have CC:=C3.out
      rw[if_pos g] at CC
      have HC0:=hid CC
      have i7:(x2.2 == 0)=true:=by simpa using g
      clear CC
      obtain⟨⟨e0,e1,e2,e3⟩,f0,f1,f2',f3⟩:=V2.out.sb.get
      go_wp2_with fail
      refine(KY.out _ _ _ _ V2.out.dsk).mono ?_
      rintro e w2 ⟨A9,n9,c9,rfl,ho,hf,q2⟩
      rw[←HC0.out] at ho
      have P:=hid (And.intro (V2.out.putK (d5:=x3.1) q2 ho hf) (V2.out.farK R2.out hf))
      clear e0 e1 e2 e3 f0 f1 f2' f3
      obtain⟨⟨e0,e1,e2,e3⟩,f0,f1,f2',f3⟩:=(V2.out.sb.step q2).get
      clear ho hf q2
      go_wp2_with fail
      go_meet
      exact⟨A9,n9,c9,by rw[HC0.out],by have:=P.out.1;rw[←HC0.out];exact this,P.out.2⟩
    · have CC:=C3.out
      rw[if_neg g] at CC
      have HC0:=hid CC
      have i7:(x2.2 == 0)=false:=by simpa using g
      clear CC
      go_wp2_with fail
      go_meet
      exact⟨_,_,_,by rw[HC0.out],by rw[HC0.out];exact V2.out,R2.out⟩
   case rest =>
    obtain⟨A3,n3,c3,rfl,v3,r3⟩:=hcut
    generalize wc=W3 at v3 ⊢
    have V3:=hid v3
    have R3:=hid r3
    clear v3 r3
    go_upto_if 41 with (fail)
    go_cut [8] (fun s8 wx=>Cr w A n x4 s8 wx)
    case first =>
     by_cases g:x3.2=0
     · have CC:=C4.out
       rw[if_pos g] at CC
       have HC0:=hid CC
       have i7:(x3.2 == 0)=true:=by simpa using g
       clear CC
       obtain⟨⟨e0,e1,e2,e3⟩,f0,f1,f2',f3⟩:=V3.out.sb.get
       go_upto_region 10 with (fail)
       refine wp_region_heldL 7 (Q W3) (by kernel_rfl) ?szz0 (fun hHeld=>?rzz0)
       case szz0 =>
        exact(Q.refl W3).drew
       generalize hgen:W3.drew=D0 at hHeld ⊢
       clear hgen
       refine takeL 0 ?v1 ?y1 ?_
       case y1=>intro w hSw;have x0:=box_ hSw e0;have x1':=box_ hSw e1;have x2':=box_ hSw e2;have x3':=box_ hSw e3;clear hSw;go_simp;try with_reducible rfl
       refine takL 1 ?_
       refine oneL 2 (fun K hK=>?_)
       go_simp
       refine(KN.out _).mono ?_
       rintro e v2 ⟨rfl,q2⟩
       go_wp2_with fail
       refine hK.out _ _ (hHeld.trans q2) (fun hHeld=>?_)
       clear hK K
       try simp only[Act.put,sA,sB,sC]
       refine oneL 3 (fun K hK=>?_)
       go_simp
       refine(KRN.out _ _ _ _ (V3.out.dsk.q hHeld)).mono ?_
       rintro e v3 ⟨A3,n3,c3,rfl,hd3,hf3,q3⟩
       have HO:=hid (And.intro hd3 (hf3.imp id (fun h ad e=>Nat.le_trans hHeld.size (h ad e))))
       clear hd3 hf3
       go_wp2_with fail
       refine hK.out _ _ (hHeld.trans q3) (fun hHeld=>?_)
       clear hK K
       try simp only[Act.put,sA,sB,sC]
       refine takL 4 ?_
       refine takL 5 ?_
       refine wpAnyL_ready (rs:=[6,7]) (by kernel_rfl) (by simp) ?_
       refine consL (fun K hK=>?kzz9) ?_
       case kzz9 =>
        go_simp
        refine hK.out _ _ (hHeld) (fun hHeld=>?_)
        clear hK K
        try simp only[Act.put,sA,sB,sC]
        refine oneK (fun K hK=>?_)
        have HZ:=hid hHeld
        obtain⟨⟨b0,b1,b2,b3⟩,g0,g1,g2,g3⟩:=(V3.out.step HZ.out).sb.get
        have HC:=hid (And.intro (V3.out.putK (d5:=(ren x3.1 freshB nmb).1) HZ.out HO.out.1 HO.out.2) (V3.out.farK R3.out HO.out.2))
        go_simp
        refine hK.out _ _ ?_
        clear hK K
        try simp only[Act.put,sA,sB,sC]
        refine takH 8 ?_
        refine doneH ?_
        go_wp2_with fail
        go_meet
        exact⟨A3,n3,c3,by rw[HC0.out],by rw[HC0.out];exact HC.out.1,HC.out.2⟩
       refine consK (fun K hK=>?_) AllReadyL.nil
       have HZ:=hid hHeld
       obtain⟨⟨b0,b1,b2,b3⟩,g0,g1,g2,g3⟩:=(V3.out.step HZ.out).sb.get
       have HC:=hid (And.intro (V3.out.putK (d5:=(ren x3.1 freshB nmb).1) HZ.out HO.out.1 HO.out.2) (V3.out.farK R3.out HO.out.2))
       go_simp
       refine hK.out _ _ ?_
       clear hK K
       try simp only[Act.put,sA,sB,sC]
       refine takH 6 ?_
       refine takH 8 ?_
       refine doneH ?_
       go_wp2_with fail
       go_meet
       exact⟨A3,n3,c3,by rw[HC0.out],by rw[HC0.out];exact HC.out.1,HC.out.2⟩
     · have CC:=C4.out
       rw[if_neg g] at CC
       have HC0:=hid CC
       have i7:(x3.2 == 0)=false:=by simpa using g
       clear CC
       go_wp2_with fail
       go_meet
       exact⟨_,_,_,by rw[HC0.out],by rw[HC0.out];exact V3.out,R3.out⟩
    case rest =>
     obtain⟨A4,n4,c4,rfl,v4,r4⟩:=hcut
     generalize wc=W4 at v4 ⊢
     have V4:=hid v4
     have R4:=hid r4
     clear v4 r4
     have C5':=C5
     go_wp2
     go_loopw [8,11] (fun s8 s11 wr=>∃ (k:Int) (A5:Option Addr) (n5 c5:Nat) (x:Dk×Int),s11=.int .i64 k∧s8=.int .i64 x.2∧1≤k∧k≤1000001∧Sv w A5 n5 c5 x.1 wr∧(A5=A∧n5=n∨Far w A5)∧Bnd 2305843009213693952 x.1∧(if x.2=0 then dels (fuelOf k) x.1 k else x)=x5) (fun _ i _=>(1000001 - intOf i).toNat)
     case atStart=>exact⟨seg+1,A4,n4,c4,x4,by first | rfl | simp,rfl,by omega,by omega,V4.out,R4.out,HB4.out,C5.out⟩
     case round =>
      obtain⟨k,A5,n5,c5,⟨xl,xe⟩,rfl,rfl,hk1,hk2,hv,hf,hb,hx⟩:=hrel
      simp only at hv hb hx
      have V5:=hid hv
      have RF:=hid hf
      have HB:=hid hb
      have HX:=hid hx
      clear hv hf hb hx C5' V4 R4
      generalize wr=W5 at V5 ⊢
      have KNK:=hid (fun W=>refName_any k W (by omega) (by omega))
      have KFK:=hid (fun W hf=>ref_find (namB k) A5 n5 c5 xl.room xl.fuse xl.off xl.fs W hf V5.out.dsk.max)
      have KDK:=hid (fun A n c W hd=>ref_del_any (namB k) A n c xl W hd (MX.out _ HB.out) HB.out.fuse.2)
      have HBD:=hid (HB.out.del (namB k))
      obtain⟨⟨e0,e1,e2,e3⟩,f0,f1,f2',f3⟩:=V5.out.sb.get
      by_cases g0:xe=0
      · subst g0
        by_cases g1:k≤1000000
        · have DM:=hid (dels_more (x:=(xl,0)) (k:=k) rfl ⟨hk1,g1⟩)
          have DE:=hid (dels_end (x:=(xl,0)) (k:=k))
          generalize namB k=nmk at KNK KFK KDK HBD DM DE
          generalize hit nmk xl.fs=xk at KFK DM DE
          obtain⟨⟨kn,ks,kt⟩,b⟩:=xk
          simp only at DM DE
          generalize del xl nmk=y at KDK HBD DM
          go_upto_region 14 with (fail)
          go_cut [13] (fun s13 wx=>Cf W5 b s13 wx)
          case first =>
           refine wp_region_heldL 8 (Q W5) (by kernel_rfl) ?szz26 (fun hHeld=>?rzz26)
           case szz26 =>
            exact(Q.refl W5).drew
           generalize hgen:W5.drew=D0 at hHeld ⊢
           clear hgen
           refine takeL 0 ?v27 ?y27 ?_
           case y27=>intro w hSw;have x0:=box_ hSw e0;have x1':=box_ hSw e1;have x2':=box_ hSw e2;have x3':=box_ hSw e3;clear hSw;go_simp;try with_reducible rfl
           refine takL 1 ?_
           refine wpAnyL_ready (rs:=[2,7]) (by kernel_rfl) (by simp) ?_
           refine consL (fun K hK=>?kzz63) ?_
           case kzz63 =>
            go_simp
            refine(KNK.out _).mono ?_
            rintro e v2 ⟨rfl,q2⟩
            go_wp2_with fail
            refine hK.out _ _ (hHeld.trans q2) (fun hHeld=>?_)
            clear hK K
            try simp only[Act.put,sA,sB,sC]
            refine wpAnyL_ready (rs:=[3,7]) (by kernel_rfl) (by simp) ?_
            refine consL (fun K hK=>?kzz51) ?_
            case kzz51 =>
             go_simp
             refine(KFK.out _ (V5.out.dsk.q hHeld).files).mono ?_
             rintro e v3 ⟨rfl,q3⟩
             go_wp2_with fail
             refine hK.out _ _ (hHeld.trans q3) (fun hHeld=>?_)
             clear hK K
             try simp only[Act.put,sA,sB,sC]
             refine takL 4 ?_
             refine takL 5 ?_
             refine wpAnyL_ready (rs:=[6,7]) (by kernel_rfl) (by simp) ?_
             refine consL (fun K hK=>?kzz40) ?_
             case kzz40 =>
              go_simp
              refine hK.out _ _ (hHeld) (fun hHeld=>?_)
              clear hK K
              try simp only[Act.put,sA,sB,sC]
              refine oneL 7 (fun K hK=>?_)
              go_simp
              have BX:=hid (Bx.new v3 [.string ⟨#[]⟩,.string ⟨#[]⟩,.string ⟨#[]⟩] 119)
              have hnb:W5.heap.size≤v3.heap.size:=hHeld.size
              have qa:=(Q.refl v3).alloc (.cells #[.string ⟨#[]⟩,.string ⟨#[]⟩,.string ⟨#[]⟩] 119)
              have BX:Hid (Bx (v3.alloc (.cells #[.string ⟨#[]⟩,.string ⟨#[]⟩,.string ⟨#[]⟩] 119)) v3.heap.size [.string ⟨#[]⟩,.string ⟨#[]⟩,.string ⟨#[]⟩]):=hid BX.out
              generalize v3.alloc (.cells #[.string ⟨#[]⟩,.string ⟨#[]⟩,.string ⟨#[]⟩] 119)=Y0 at BX qa ⊢
              generalize v3.heap.size=nb at BX hnb ⊢
              refine hK.out _ _ (hHeld.trans qa) (fun hHeld=>?_)
              clear hK K
              try simp only[Act.put,sA,sB,sC]
              refine oneK (fun K hK=>?_)
              have HZ:=hid hHeld
              obtain⟨⟨b0,b1,b2⟩,g0,g1,g2⟩:=BX.out.get3
              go_simp
              refine hK.out _ _ ?_
              clear hK K
              try simp only[Act.put,sA,sB,sC]
              refine takH 9 ?_
              refine doneH ?_
              go_wp2_with fail
              go_meet
              exact⟨rfl,((HZ.out.setCell (p:=⟨nb,0,none⟩) hnb _).setCell (p:=⟨nb,1,none⟩) hnb _).setCell (p:=⟨nb,2,none⟩) hnb _⟩
             refine consL (fun K hK=>?_) AllReadyL.nil
             go_simp
             have BX:=hid (Bx.new v3 [.string ⟨#[]⟩,.string ⟨#[]⟩,.string ⟨#[]⟩] 119)
             have hnb:W5.heap.size≤v3.heap.size:=hHeld.size
             have qa:=(Q.refl v3).alloc (.cells #[.string ⟨#[]⟩,.string ⟨#[]⟩,.string ⟨#[]⟩] 119)
             have BX:Hid (Bx (v3.alloc (.cells #[.string ⟨#[]⟩,.string ⟨#[]⟩,.string ⟨#[]⟩] 119)) v3.heap.size [.string ⟨#[]⟩,.string ⟨#[]⟩,.string ⟨#[]⟩]):=hid BX.out
             generalize v3.alloc (.cells #[.string ⟨#[]⟩,.string ⟨#[]⟩,.string ⟨#[]⟩] 119)=Y1 at BX qa ⊢
             generalize v3.heap.size=nb at BX hnb ⊢
             refine hK.out _ _ (hHeld.trans qa) (fun hHeld=>?_)
             clear hK K
             try simp only[Act.put,sA,sB,sC]
             refine wpAnyL_ready (rs:=[6,8]) (by kernel_rfl) (by simp) ?_
             refine consL (fun K hK=>?kzz38) ?_
             case kzz38 =>
              go_simp
              refine hK.out _ _ (hHeld) (fun hHeld=>?_)
              clear hK K
              try simp only[Act.put,sA,sB,sC]
              refine oneK (fun K hK=>?_)
              have HZ:=hid hHeld
              obtain⟨⟨b0,b1,b2⟩,g0,g1,g2⟩:=BX.out.get3
              go_simp
              refine hK.out _ _ ?_
              clear hK K
              try simp only[Act.put,sA,sB,sC]
              refine takH 9 ?_
              refine doneH ?_
              go_wp2_with fail
              go_meet
              exact⟨rfl,((HZ.out.setCell (p:=⟨nb,0,none⟩) hnb _).setCell (p:=⟨nb,1,none⟩) hnb _).setCell (p:=⟨nb,2,none⟩) hnb _⟩
             refine consK (fun K hK=>?_) AllReadyL.nil
             have HZ:=hid hHeld
             obtain⟨⟨b0,b1,b2⟩,g0,g1,g2⟩:=BX.out.get3
             go_simp
             refine hK.out _ _ ?_
             clear hK K
             try simp only[Act.put,sA,sB,sC]
             refine takH 6 ?_
             refine takH 9 ?_
             refine doneH ?_
             go_wp2_with fail
             go_meet
             exact⟨rfl,((HZ.out.setCell (p:=⟨nb,0,none⟩) hnb _).setCell (p:=⟨nb,1,none⟩) hnb _).setCell (p:=⟨nb,2,none⟩) hnb _⟩
            refine consL (fun K hK=>?_) AllReadyL.nil
            go_simp
            have BX:=hid (Bx.new v2 [.string ⟨#[]⟩,.string ⟨#[]⟩,.string ⟨#[]⟩] 119)
            have hnb:W5.heap.size≤v2.heap.size:=hHeld.size
            have qa:=(Q.refl v2).alloc (.cells #[.string ⟨#[]⟩,.string ⟨#[]⟩,.string ⟨#[]⟩] 119)
            have BX:Hid (Bx (v2.alloc (.cells #[.string ⟨#[]⟩,.string ⟨#[]⟩,.string ⟨#[]⟩] 119)) v2.heap.size [.string ⟨#[]⟩,.string ⟨#[]⟩,.string ⟨#[]⟩]):=hid BX.out
            generalize v2.alloc (.cells #[.string ⟨#[]⟩,.string ⟨#[]⟩,.string ⟨#[]⟩] 119)=Y2 at BX qa ⊢
            generalize v2.heap.size=nb at BX hnb ⊢
            refine hK.out _ _ (hHeld.trans qa) (fun hHeld=>?_)
            clear hK K
            try simp only[Act.put,sA,sB,sC]
            refine oneL 3 (fun K hK=>?_)
            go_simp
            refine(KFK.out _ (V5.out.dsk.q hHeld).files).mono ?_
            rintro e v3 ⟨rfl,q3⟩
            have BX:=hid (BX.out.q q3)
            go_wp2_with fail
            refine hK.out _ _ (hHeld.trans q3) (fun hHeld=>?_)
            clear hK K
            try simp only[Act.put,sA,sB,sC]
            refine takL 4 ?_
            refine takL 5 ?_
            refine wpAnyL_ready (rs:=[6,8]) (by kernel_rfl) (by simp) ?_
            refine consL (fun K hK=>?kzz48) ?_
            case kzz48 =>
             go_simp
             refine hK.out _ _ (hHeld) (fun hHeld=>?_)
             clear hK K
             try simp only[Act.put,sA,sB,sC]
             refine oneK (fun K hK=>?_)
             have HZ:=hid hHeld
             obtain⟨⟨b0,b1,b2⟩,g0,g1,g2⟩:=BX.out.get3
             go_simp
             refine hK.out _ _ ?_
             clear hK K
             try simp only[Act.put,sA,sB,sC]
             refine takH 9 ?_
             refine doneH ?_
             go_wp2_with fail
             go_meet
             exact⟨rfl,((HZ.out.setCell (p:=⟨nb,0,none⟩) hnb _).setCell (p:=⟨nb,1,none⟩) hnb _).setCell (p:=⟨nb,2,none⟩) hnb _⟩
            refine consK (fun K hK=>?_) AllReadyL.nil
            have HZ:=hid hHeld
            obtain⟨⟨b0,b1,b2⟩,g0,g1,g2⟩:=BX.out.get3
            go_simp
            refine hK.out _ _ ?_
            clear hK K
            try simp only[Act.put,sA,sB,sC]
            refine takH 6 ?_
            refine takH 9 ?_
            refine doneH ?_
            go_wp2_with fail
            go_meet
            exact⟨rfl,((HZ.out.setCell (p:=⟨nb,0,none⟩) hnb _).setCell (p:=⟨nb,1,none⟩) hnb _).setCell (p:=⟨nb,2,none⟩) hnb _⟩
           refine consL (fun K hK=>?_) AllReadyL.nil
           go_simp
           have BX:=hid (Bx.new D0 [.string ⟨#[]⟩,.string ⟨#[]⟩,.string ⟨#[]⟩] 119)
           have hnb:W5.heap.size≤D0.heap.size:=hHeld.size
           have qa:=(Q.refl D0).alloc (.cells #[.string ⟨#[]⟩,.string ⟨#[]⟩,.string ⟨#[]⟩] 119)
           have BX:Hid (Bx (D0.alloc (.cells #[.string ⟨#[]⟩,.string ⟨#[]⟩,.string ⟨#[]⟩] 119)) D0.heap.size [.string ⟨#[]⟩,.string ⟨#[]⟩,.string ⟨#[]⟩]):=hid BX.out
           generalize D0.alloc (.cells #[.string ⟨#[]⟩,.string ⟨#[]⟩,.string ⟨#[]⟩] 119)=Y3 at BX qa ⊢
           generalize D0.heap.size=nb at BX hnb ⊢
           refine hK.out _ _ (hHeld.trans qa) (fun hHeld=>?_)
           clear hK K
           try simp only[Act.put,sA,sB,sC]
           refine oneL 2 (fun K hK=>?_)
           go_simp
           refine(KNK.out _).mono ?_
           rintro e v2 ⟨rfl,q2⟩
           have BX:=hid (BX.out.q q2)
           go_wp2_with fail
           refine hK.out _ _ (hHeld.trans q2) (fun hHeld=>?_)
           clear hK K
           try simp only[Act.put,sA,sB,sC]
           refine oneL 3 (fun K hK=>?_)
           go_simp
           refine(KFK.out _ (V5.out.dsk.q hHeld).files).mono ?_
           rintro e v3 ⟨rfl,q3⟩
           have BX:=hid (BX.out.q q3)
           go_wp2_with fail
           refine hK.out _ _ (hHeld.trans q3) (fun hHeld=>?_)
           clear hK K
           try simp only[Act.put,sA,sB,sC]
           refine takL 4 ?_
           refine takL 5 ?_
           refine wpAnyL_ready (rs:=[6,8]) (by kernel_rfl) (by simp) ?_
           refine consL (fun K hK=>?kzz59) ?_
           case kzz59 =>
            go_simp
            refine hK.out _ _ (hHeld) (fun hHeld=>?_)
            clear hK K
            try simp only[Act.put,sA,sB,sC]
            refine oneK (fun K hK=>?_)
            have HZ:=hid hHeld
            obtain⟨⟨b0,b1,b2⟩,g0,g1,g2⟩:=BX.out.get3
            go_simp
            refine hK.out _ _ ?_
            clear hK K
            try simp only[Act.put,sA,sB,sC]
            refine takH 9 ?_
            refine doneH ?_
            go_wp2_with fail
            go_meet
            exact⟨rfl,((HZ.out.setCell (p:=⟨nb,0,none⟩) hnb _).setCell (p:=⟨nb,1,none⟩) hnb _).setCell (p:=⟨nb,2,none⟩) hnb _⟩
           refine consK (fun K hK=>?_) AllReadyL.nil
           have HZ:=hid hHeld
           obtain⟨⟨b0,b1,b2⟩,g0,g1,g2⟩:=BX.out.get3
           go_simp
           refine hK.out _ _ ?_
           clear hK K
           try simp only[Act.put,sA,sB,sC]
           refine takH 6 ?_
           refine takH 9 ?_
           refine doneH ?_
           go_wp2_with fail
           go_meet
           exact⟨rfl,((HZ.out.setCell (p:=⟨nb,0,none⟩) hnb _).setCell (p:=⟨nb,1,none⟩) hnb _).setCell (p:=⟨nb,2,none⟩) hnb _⟩
          case rest =>
           obtain⟨rfl,q6⟩:=hcut
           have V6:=hid (V5.out.step q6)
           clear e0 e1 e2 e3 f0 f1 f2' f3
           generalize wc=W6 at V6 q6 ⊢
           clear q6
           obtain⟨⟨e0,e1,e2,e3⟩,f0,f1,f2',f3⟩:=V6.out.sb.get
           cases b with
           | false =>
             have HQ:=hid (show x5=(xl,0) from HX.out.symm.trans (DE.out (.inr (fun h=>by cases h.2))))
             have F:=hid (V6.out.endK RF.out (0) (.slice A5 n5 c5) (.int .i64 xl.room) (.int .i64 xl.fuse) (.bool xl.off))
             obtain⟨⟨s0,s1,s2,s3⟩,h0,h1,h2,h3⟩:=V6.out.sb.getR
             go_wp2
             (try rw[Exit.noGoto_ret])
             refine bodyPost_ret (v:=.tuple #[dkv A5 n5 c5 xl.room xl.fuse xl.off,.int .i64 (0)]) (by simp[results,Tryz.results77,go_sem,s0,s1,s2,s3]) rfl ?_
             rw[HQ.out]
             exact F.out
           | true =>
             have HQ:=hid ((DM.out rfl).symm.trans HX.out)
             go_upto_region 17 with (fail)
             refine wp_region_heldL 7 (Q W6) (by kernel_rfl) ?szz13 (fun hHeld=>?rzz13)
             case szz13 =>
              exact(Q.refl W6).drew
             generalize hgen:W6.drew=D0 at hHeld ⊢
             clear hgen
             refine takeL 0 ?v14 ?y14 ?_
             case y14=>intro w hSw;have x0:=box_ hSw e0;have x1':=box_ hSw e1;have x2':=box_ hSw e2;have x3':=box_ hSw e3;clear hSw;go_simp;try with_reducible rfl
             refine takL 1 ?_
             refine oneL 2 (fun K hK=>?_)
             go_simp
             refine(KNK.out _).mono ?_
             rintro e v2 ⟨rfl,q2⟩
             go_wp2_with fail
             refine hK.out _ _ (hHeld.trans q2) (fun hHeld=>?_)
             clear hK K
             try simp only[Act.put,sA,sB,sC]
             refine oneL 3 (fun K hK=>?_)
             go_simp
             refine(KDK.out _ _ _ _ (V6.out.dsk.q hHeld)).mono ?_
             rintro e v3 ⟨A3,n3,c3,rfl,hd3,hf3,q3⟩
             have HO:=hid (And.intro hd3 (hf3.imp id (fun h ad e=>Nat.le_trans hHeld.size (h ad e))))
             clear hd3 hf3
             go_wp2_with fail
             refine hK.out _ _ (hHeld.trans q3) (fun hHeld=>?_)
             clear hK K
             try simp only[Act.put,sA,sB,sC]
             refine takL 4 ?_
             refine takL 5 ?_
             refine wpAnyL_ready (rs:=[6,7]) (by kernel_rfl) (by simp) ?_
             refine consL (fun K hK=>?kzz22) ?_
             case kzz22 =>
              go_simp
              refine hK.out _ _ (hHeld) (fun hHeld=>?_)
              clear hK K
              try simp only[Act.put,sA,sB,sC]
              refine oneK (fun K hK=>?_)
              have HZ:=hid hHeld
              obtain⟨⟨b0,b1,b2,b3⟩,g0,g1,g2,g3⟩:=(V6.out.step HZ.out).sb.get
              have HC:=hid (And.intro (V6.out.putK (d5:=y.1) HZ.out HO.out.1 HO.out.2) (V6.out.farK RF.out HO.out.2))
              go_simp
              refine hK.out _ _ ?_
              clear hK K
              try simp only[Act.put,sA,sB,sC]
              refine takH 8 ?_
              refine doneH ?_
              generalize ((((v3.setCell ⟨w.heap.size,0,none⟩ (.slice A3 n3 c3)).setCell ⟨w.heap.size,1,none⟩ (.int .i64 y.1.room)).setCell ⟨w.heap.size,2,none⟩ (.int .i64 y.1.fuse)).setCell ⟨w.heap.size,3,none⟩ (.bool y.1.off))=W8 at HC ⊢
              go_wp2
              go_roundw
              case rel=>exact⟨k+1,A3,n3,c3,y,by first | rfl | go_num,rfl,by omega,by omega,HC.out.1,HC.out.2,HBD.out,HQ.out⟩
              case measure=>simp[intOf];omega
             refine consK (fun K hK=>?_) AllReadyL.nil
             have HZ:=hid hHeld
             obtain⟨⟨b0,b1,b2,b3⟩,g0,g1,g2,g3⟩:=(V6.out.step HZ.out).sb.get
             have HC:=hid (And.intro (V6.out.putK (d5:=y.1) HZ.out HO.out.1 HO.out.2) (V6.out.farK RF.out HO.out.2))
             go_simp
             refine hK.out _ _ ?_
             clear hK K
             try simp only[Act.put,sA,sB,sC]
             refine takH 6 ?_
             refine takH 8 ?_
             refine doneH ?_
             generalize ((((v3.setCell ⟨w.heap.size,0,none⟩ (.slice A3 n3 c3)).setCell ⟨w.heap.size,1,none⟩ (.int .i64 y.1.room)).setCell ⟨w.heap.size,2,none⟩ (.int .i64 y.1.fuse)).setCell ⟨w.heap.size,3,none⟩ (.bool y.1.off))=W8 at HC ⊢
             go_wp2
             go_roundw
             case rel=>exact⟨k+1,A3,n3,c3,y,by first | rfl | go_num,rfl,by omega,by omega,HC.out.1,HC.out.2,HBD.out,HQ.out⟩
             case measure=>simp[intOf];omega
        · have HQ:=hid (show x5=(xl,0) from HX.out.symm.trans (dels_end (x:=(xl,0)) (k:=k) (.inr (fun h=>g1 h.1.2))))
          have F:=hid (V5.out.endK RF.out (0) (.slice A5 n5 c5) (.int .i64 xl.room) (.int .i64 xl.fuse) (.bool xl.off))
          obtain⟨⟨s0,s1,s2,s3⟩,h0,h1,h2,h3⟩:=V5.out.sb.getR
          go_wp2
          (try rw[Exit.noGoto_ret])
          refine bodyPost_ret (v:=.tuple #[dkv A5 n5 c5 xl.room xl.fuse xl.off,.int .i64 (0)]) (by simp[results,Tryz.results77,go_sem,s0,s1,s2,s3]) rfl ?_
          rw[HQ.out]
          exact F.out
      · have i7:(xe == 0)=false:=by simpa using g0
        have HQ:=hid (show x5=(xl,xe) from HX.out.symm.trans (dels_end (x:=(xl,xe)) (k:=k) (.inl g0)))
        by_cases g1:k≤1000000
        all_goals
          have F:=hid (V5.out.endK RF.out (xe) (.slice A5 n5 c5) (.int .i64 xl.room) (.int .i64 xl.fuse) (.bool xl.off))
          obtain⟨⟨s0,s1,s2,s3⟩,h0,h1,h2,h3⟩:=V5.out.sb.getR
          go_wp2
          (try rw[Exit.noGoto_ret])
          refine bodyPost_ret (v:=.tuple #[dkv A5 n5 c5 xl.room xl.fuse xl.off,.int .i64 (xe)]) (by simp[results,Tryz.results77,go_sem,s0,s1,s2,s3]) rfl ?_
          rw[HQ.out]
          exact F.out
end
section
open Go.RowKit Dkm Wm
def RetRK (w:World)(A0:Option Addr)(n0:Nat)(x:Dk×List (List UInt8)×Int×Int)(e:Ending)(w':World):Prop:=
 ∃ A n c L ln lc,e=.returned (.tuple #[dkv A n c x.1.room x.1.fuse x.1.off,.slice L ln lc,.int .i64 x.2.2.1,.int .i64 x.2.2.2])∧Dsk w' A n c x.1.fs∧(A=A0∧n=n0∨Far w A)∧OwnS w' w.heap.size L ln lc x.2.1∧Q w w'
theorem endRK {w wr:World}{A A0:Option Addr}{n n0 c:Nat}{d:Dk}{L:Option Addr}{m lc:Nat}{rs:List (List UInt8)}(q:Q w wr)(hres:Bx wr (w.heap.size+1) [.slice none 0 0,.int .i64 0,.int .i64 0,.bool false])(hd:Dsk wr A n c d.fs)(hf:A=A0∧n=n0∨Far w A)(hl:OwnS wr (w.heap.size+2) L m lc rs)(seg er:Int)(x y z u:Value) :
  RetRK w A0 n0 (d,rs,seg,er) (.returned (.tuple #[dkv A n c d.room d.fuse d.off,.slice L m lc,.int .i64 seg,.int .i64 er])) ((((wr.setCell ⟨w.heap.size+1,0,none⟩ x).setCell ⟨w.heap.size+1,1,none⟩ y).setCell ⟨w.heap.size+1,2,none⟩ z).setCell ⟨w.heap.size+1,3,none⟩ u):=
 ⟨A,n,c,L,m,lc,rfl,hd.odd4 hres (by intro u hu s e;subst e;simp at hu) _ _ _ _,hf,(hl.set4 (b:=w.heap.size+1) (by omega) _ _ _ _).lower (by omega),q.set4 (b:=w.heap.size+1) (by omega) _ _ _ _⟩
def Cx2 (w:World)(a b s t:Value)(wx:World):Prop:=s=a∧t=b∧Q w wx
def Rr4 (w:World)(A:Option Addr)(n c:Nat)(d:Dk)(from_:Int)(x:Dk×List (List UInt8)×Int×Int)(s8 s9 s10:Value)(wr:World):Prop:=
 ∃ (k last:Int) (rs:List (List UInt8)) (L:Option Addr) (ln lc:Nat),s8=.slice L ln lc∧s9=.int .i64 last∧s10=.int .i64 k∧1≤k∧k≤1000001∧Sb w A n c d.room d.fuse d.off wr ∧
   OwnS wr (w.heap.size+2) L ln lc rs∧ln≤(k - 1).toNat*524288∧recF (fuelOf k) d from_ k rs last=x
theorem refRec_good (from_:Int)(A:Option Addr)(n c:Nat)(d:Dk)(w:World)(hd:Dsk w A n c d.fs)(hB:Bnd 2097152 d)(h1:segOk from_) :
  Calls Tryz.prog 34 #[dkv A n c d.room d.fuse d.off,.int .i64 from_] w fun e w'=>RetRK w A n (recM d from_) e w':=by
 have HD:=hid hd
 have HB:=hid hB
 have HM:=hid (mx21 hB)
 have P:=hid (Sb.new w A n c d.room d.fuse d.off)
 have hx:recF (fuelOf from_) d from_ from_ [] from_=recM d from_:=by unfold recM;rw[if_neg (by simpa using h1)]
 generalize recM d from_=x at hx ⊢
 have HX:=hid hx
 have r0:=h1.1
 have r1:=h1.2
 have r2:¬ from_<1:=by omega
 have r3:¬ 1000000<from_:=by omega
 clear hd hB h1 hx
 go_enter Tryz.func34,Tryz.ntmps34
 go_wp2
 generalize (w.alloc (.cells #[.slice A n c,.int .i64 d.room,.int .i64 d.fuse,.bool d.off] 24)).alloc (.cells #[.slice none 0 0,.int .i64 0,.int .i64 0,.bool false] 24)=W at P ⊢
 go_loopw [8,9,10] (Rr4 w A n c d from_ x) (fun _ _ s10 _=>(1000002 - intOf s10).toNat)
 case atStart=>exact⟨from_,from_,[],none,0,0,rfl,rfl,rfl,by omega,by omega,P.out,ownS_nil _ _,Nat.zero_le _,HX.out⟩
 case round =>
  obtain⟨k,last,rs,L,ln,lc,rfl,rfl,rfl,hk1,hk2,hv,hol,hrl,hxx⟩:=hrel
  have V:=hid hv
  have OL:=hid hol
  have HXX:=hid hxx
  have HRL:=hid hrl
  clear hv hol hxx hrl P
  generalize wr=W8 at V OL ⊢
  obtain⟨⟨e0,e1,e2,e3⟩,f0,f1,f2',f3⟩:=V.out.get
  by_cases g1:k≤1000000
  case neg =>
   have HQ:=hid (show x=(d,rs,last,0) from HXX.out.symm.trans (recF_end (.inl (fun h=>g1 h.2))))
   have F:=hid (endRK (d:=d) (A0:=A) (n0:=n) V.out.q V.out.res (HD.out.q V.out.q) (.inl ⟨rfl,rfl⟩) (OL.out) (last) (0) (.slice A n c) (.int .i64 d.room) (.int .i64 d.fuse) (.bool d.off))
   obtain⟨⟨s0,s1,s2,s3⟩,h0,h1,h2,h3⟩:=V.out.getR
   go_wp2
   (try rw[Exit.noGoto_ret])
   refine bodyPost_ret (v:=.tuple #[dkv A n c d.room d.fuse d.off,.slice L ln lc,.int .i64 (last),.int .i64 (0)]) (by simp[results,Tryz.results34,go_sem,s0,s1,s2,s3]) rfl ?_
   rw[HQ.out]
   exact F.out
  have G1:Hid (segOk k):=hid ⟨hk1,g1⟩
  have KN:=hid (fun W=>refName_any k W (by omega) (by omega))
  have KR:=hid (fun w hf=>ref_read (namB k) A n c d.room d.fuse d.off d.fs w hf HD.out.max HM.out)
  have hsz:=redd_size (namB k) d.fs HB.out.sum
  have hcs:(redd (namB k) d.fs).2=0∨(redd (namB k) d.fs).2=7:=by unfold redd;split<;>simp
  obtain⟨r,hr⟩:∃ r,r=redd (namB k) d.fs:=⟨_,rfl⟩
  rw[←hr] at KR hsz hcs
  have HR:=hid hr
  clear hr
  obtain⟨s,se⟩:=r
  have hsz':s.size≤2097152:=hsz
  simp only at KR hcs
  clear hsz
  generalize namB k=nmk at KN KR
  go_upto_region 8 with (fail)
  go_cut [11,12] (fun s11 s12 wx=>Cx2 W8 (.string s) (.int .i64 se) s11 s12 wx)
  case first =>
   refine wp_region_held_drew (S:=Q W8) (by kernel_rfl) ?szz0 (fun hHeld=>?rzz0)
   case szz0 =>
    exact(Q.refl W8).drew
   generalize hgen:W8.drew=D0 at hHeld ⊢
   clear hgen
   refine takeH 0 ?v1 ?y1 ?_
   case y1=>intro w hSw;have x0:=box_ hSw e0;have x1:=box_ hSw e1;have x2:=box_ hSw e2;have x3:=box_ hSw e3;clear hSw;go_simp;try with_reducible rfl
   refine takH 1 ?_
   refine oneH 2 (fun K hK=>?_)
   go_simp
   refine(KN.out _).mono ?_
   rintro e v2 ⟨rfl,q2⟩
   go_wp2_with fail
   refine hK.out _ _ (hHeld.trans q2) (fun hHeld=>?_)
   clear hK K
   try simp only[Act.put,sA,sB,sC]
   refine oneH 3 (fun K hK=>?_)
   go_simp
   refine(KR.out _ (HD.out.q (V.out.q.trans hHeld)).files).mono ?_
   rintro e v3 ⟨rfl,q3⟩
   go_wp2_with fail
   refine hK.out _ _ (hHeld.trans q3) (fun hHeld=>?_)
   clear hK K
   try simp only[Act.put,sA,sB,sC]
   refine takH 4 ?_
   refine takH 5 ?_
   refine wpAnyH_ready (rs:=[6,7]) (by kernel_rfl) (by simp) ?_
   refine consH (fun K hK=>?kzz9) ?_
   case kzz9 =>
    go_simp
    refine hK.out _ _ (hHeld) (fun hHeld=>?_)
    clear hK K
    try simp only[Act.put,sA,sB,sC]
    refine takH 7 ?_
    refine takH 8 ?_
    refine doneH ?_
    go_wp2_with fail
    go_meet
    exact⟨rfl,rfl,hHeld⟩
   refine consH (fun K hK=>?_) AllReadyH.nil
   go_simp
   refine hK.out _ _ (hHeld) (fun hHeld=>?_)
   clear hK K
   try simp only[Act.put,sA,sB,sC]
   refine takH 6 ?_
   refine takH 8 ?_
   refine doneH ?_
   go_wp2_with fail
   go_meet
   exact⟨rfl,rfl,hHeld⟩
  case rest =>
  obtain⟨rfl,rfl,q9⟩:=hcut
  generalize wc=W9 at q9 ⊢
  have U0:=hid (V.out.step q9)
  have UL0:=hid (OL.out.q q9)
  clear e0 e1 e2 e3 f0 f1 f2' f3 V OL KN KR q9
  rcases hcs with he | he
  case inr =>
   subst he
   have HQ:=hid (show x=(d,rs,last,0) from HXX.out.symm.trans (recF_end (.inr (by rw[←HR.out];simp))))
   obtain⟨⟨e0,e1,e2,e3⟩,f0,f1,f2',f3⟩:=U0.out.get
   have F:=hid (endRK (d:=d) (A0:=A) (n0:=n) U0.out.q U0.out.res (HD.out.q U0.out.q) (.inl ⟨rfl,rfl⟩) (UL0.out) (last) (0) (.slice A n c) (.int .i64 d.room) (.int .i64 d.fuse) (.bool d.off))
   obtain⟨⟨s0,s1,s2,s3⟩,h0,h1,h2,h3⟩:=U0.out.getR
   go_wp2
   (try rw[Exit.noGoto_ret])
   refine bodyPost_ret (v:=.tuple #[dkv A n c d.room d.fuse d.off,.slice L ln lc,.int .i64 (last),.int .i64 (0)]) (by simp[results,Tryz.results34,go_sem,s0,s1,s2,s3]) rfl ?_
   rw[HQ.out]
   exact F.out
  subst he
  have hsl:=scn_len s.data.toList
  rw[size_list] at hsl
  have KSC:=hid (fun w=>refScan_any s w (by unfold maxLen;omega) (by omega))
  have hus:=used_le s.data.toList
  rw[size_list] at hus
  have hrest:(scn s.data.toList).2=[]↔used s.data.toList=s.size:=by
   have h1:=congrArg List.length (scd s.data.toList).eq
   rw[List.length_append,size_list,←used_flat] at h1
   rw[←List.length_eq_zero_iff];omega
  have htk:=take_used s.data.toList
  have HRS:=hid hrest
  have HTK:=hid htk
  obtain⟨ms,hms⟩:∃ ms,ms=(scn s.data.toList).1:=⟨_,rfl⟩
  obtain⟨us,hus2⟩:∃ us,us=used s.data.toList:=⟨_,rfl⟩
  rw[←hms,←hus2] at KSC
  rw[←hms] at hsl
  rw[←hus2] at hus
  have HMS:=hid (And.intro hms hus2)
  clear hrest htk hms hus2
  have HSL:=hid hsl
  clear hsl
  go_wp2_with fail
  refine(KSC.out _).mono ?_
  rintro e w6 ⟨M,mn,mc,rfl,hm,q6⟩
  have hmn:ms.length=mn:=hm.len
  subst hmn
  have U:=hid (U0.out.step q6)
  have UL:=hid (UL0.out.q q6)
  have hmb:w.heap.size+2≤W9.heap.size:=by have:=U0.out.res.lt;omega
  have OM:=hid (hm.lower hmb)
  clear hmb
  have hMn:=hid hm.nil
  clear q6 hm U0 UL0
  have hbw:w.heap.size+2≤w6.heap.size:=by have:=U.out.res.lt;omega
  have HB16:=hid (show (ln+ms.length)*16≤140737488355328 by have h1:=HRL.out;have h2:=HSL.out;omega)
  by_cases gn:us=s.size
  · have hz:(scn s.data.toList).2=[]:=HRS.out.2 (by rw[←HMS.out.2];exact gn)
    have HX2:=hid ((recF_more G1.out HR.out.symm hz).symm.trans HXX.out)
    have i1:¬ us<s.size:=by omega
    clear hz gn
    go_wp2_with (at_builtin
                 refine wpl_appSS rfl (.tmp 49) (.tmp 50) rfl (w.heap.size+2) L ln lc rs rfl UL.out M ms.length mc ms rfl OM.out.strs hMn.out HB16.out hbw ?_
                 intro L2 lc2 w7 ho7 hg7 hb7)
    have V2:=hid (U.out.grown UL.out hg7 hb7)
    clear U UL
    go_roundw
    case rel =>
     refine⟨k+1,k,rs++ms,L2,ln+ms.length,lc2,rfl,rfl,by first | rfl | go_num,by omega,by omega,V2.out,ho7,?_,?_⟩
     · have h1:=HRL.out;have h2:=HSL.out;omega
     · rw[HMS.out.1];exact HX2.out
    case measure=>simp[intOf];omega
  · have hz:(scn s.data.toList).2≠[]:=fun h=>gn (by rw[HMS.out.2];exact HRS.out.1 h)
    have hex:s.extract 0 us=⟨(flat (scn s.data.toList).1).toArray⟩:=by
     rw[extract_list,HMS.out.2,HTK.out];simp
    have hes:(s.extract 0 us).size≤2305843009213693952:=by rw[ByteArray.size_extract];omega
    have KC:=hid (fun A n c w hd=>refCut_any k (s.extract 0 us) A n c d w hd (HB.out.more (by omega)) hes G1.out)
    obtain⟨y,hy⟩:∃ y,y=cutM d k (s.extract 0 us):=⟨_,rfl⟩
    have HX2:=hid ((recF_cut G1.out HR.out.symm hz (y:=y) (by rw[hy,hex])).symm.trans HXX.out)
    rw[←hy] at KC
    rw[←HMS.out.1] at HX2
    have i1:us<s.size:=by omega
    clear hz hex hes hy gn
    obtain⟨yd,ye⟩:=y
    simp only at KC HX2
    go_upto_region 15 with (at_builtin
                            refine wpl_appSS rfl (.tmp 49) (.tmp 50) rfl (w.heap.size+2) L ln lc rs rfl UL.out M ms.length mc ms rfl OM.out.strs hMn.out HB16.out hbw ?_
                            intro L2 lc2 w7 ho7 hg7 hb7)
    have V2:=hid (U.out.grown UL.out hg7 hb7)
    have OL2:=hid ho7
    clear U UL hg7 hb7 ho7 HB16 OM hMn
    generalize w7=W15 at V2 OL2 ⊢
    obtain⟨⟨e0,e1,e2,e3⟩,f0,f1,f2',f3⟩:=V2.out.get
    go_cut [15,16] (fun s15 s16 wx=>Cb W15 A n yd ye s15 s16 wx)
    case first =>
     refine wp_region_heldL 10 (Q W15) (by kernel_rfl) ?szz13 (fun hHeld=>?rzz13)
     case szz13 =>
      exact(Q.refl W15).drew
     generalize hgen:W15.drew=D0 at hHeld ⊢
     clear hgen
     refine takeL 0 ?v14 ?y14 ?_
     case y14=>intro w hSw;have x0:=box_ hSw e0;have x1:=box_ hSw e1;have x2:=box_ hSw e2;have x3:=box_ hSw e3;clear hSw;go_simp;try with_reducible rfl
     refine takL 1 ?_
     refine takL 2 ?_
     refine takL 3 ?_
     refine takL 4 ?_
     refine wpAnyL_ready (rs:=[5,9]) (by kernel_rfl) (by simp) ?_
     refine consL (fun K hK=>?kzz41) ?_
     case kzz41 =>
      go_simp
      refine(KC.out _ _ _ _ (HD.out.q (V2.out.q.trans hHeld))).mono ?_
      rintro e v3 ⟨A3,n3,c3,rfl,hd3,hf3,q3⟩
      have HO:=hid (And.intro hd3 (hf3.imp id (fun h ad e=>Nat.le_trans hHeld.size (h ad e))))
      clear hd3 hf3
      go_wp2_with fail
      refine hK.out _ _ (hHeld.trans q3) (fun hHeld=>?_)
      clear hK K
      try simp only[Act.put,sA,sB,sC]
      refine takL 6 ?_
      refine takL 7 ?_
      refine wpAnyL_ready (rs:=[8,9]) (by kernel_rfl) (by simp) ?_
      refine consL (fun K hK=>?kzz30) ?_
      case kzz30 =>
       go_simp
       refine hK.out _ _ (hHeld) (fun hHeld=>?_)
       clear hK K
       try simp only[Act.put,sA,sB,sC]
       refine oneL 9 (fun K hK=>?_)
       go_simp
       have BX:=hid (Bx.new v3 [.slice none 0 0,.int .i64 0,.int .i64 0,.bool false] 24)
       have hnb:W15.heap.size≤v3.heap.size:=hHeld.size
       have qa:=(Q.refl v3).alloc (.cells #[.slice none 0 0,.int .i64 0,.int .i64 0,.bool false] 24)
       have BX:Hid (Bx (v3.alloc (.cells #[.slice none 0 0,.int .i64 0,.int .i64 0,.bool false] 24)) v3.heap.size [.slice none 0 0,.int .i64 0,.int .i64 0,.bool false]):=hid BX.out
       generalize v3.alloc (.cells #[.slice none 0 0,.int .i64 0,.int .i64 0,.bool false] 24)=Y0 at BX qa ⊢
       generalize v3.heap.size=nb at BX hnb ⊢
       refine hK.out _ _ (hHeld.trans qa) (fun hHeld=>?_)
       clear hK K
       try simp only[Act.put,sA,sB,sC]
       refine oneK (fun K hK=>?_)
       have HZ:=hid hHeld
       obtain⟨⟨b0,b1,b2,b3⟩,g0,g1,g2,g3⟩:=BX.out.get4
       have HC:=hid (Cb.mk (A0:=A) (n0:=n) (r:=yd) (er:=ye) HZ.out (HO.out.1.q (by first | exact Q.refl _ | exact qa)) HO.out.2 BX.out hnb)
       go_simp
       refine hK.out _ _ ?_
       clear hK K
       try simp only[Act.put,sA,sB,sC]
       refine takH 11 ?_
       refine doneH ?_
       go_wp2_with fail
       go_meet
       exact HC.out
      refine consL (fun K hK=>?_) AllReadyL.nil
      go_simp
      have BX:=hid (Bx.new v3 [.slice none 0 0,.int .i64 0,.int .i64 0,.bool false] 24)
      have hnb:W15.heap.size≤v3.heap.size:=hHeld.size
      have qa:=(Q.refl v3).alloc (.cells #[.slice none 0 0,.int .i64 0,.int .i64 0,.bool false] 24)
      have BX:Hid (Bx (v3.alloc (.cells #[.slice none 0 0,.int .i64 0,.int .i64 0,.bool false] 24)) v3.heap.size [.slice none 0 0,.int .i64 0,.int .i64 0,.bool false]):=hid BX.out
      generalize v3.alloc (.cells #[.slice none 0 0,.int .i64 0,.int .i64 0,.bool false] 24)=Y1 at BX qa ⊢
      generalize v3.heap.size=nb at BX hnb ⊢
      refine hK.out _ _ (hHeld.trans qa) (fun hHeld=>?_)
      clear hK K
      try simp only[Act.put,sA,sB,sC]
      refine wpAnyL_ready (rs:=[8,10]) (by kernel_rfl) (by simp) ?_
      refine consL (fun K hK=>?kzz28) ?_
      case kzz28 =>
       go_simp
       refine hK.out _ _ (hHeld) (fun hHeld=>?_)
       clear hK K
       try simp only[Act.put,sA,sB,sC]
       refine oneK (fun K hK=>?_)
       have HZ:=hid hHeld
       obtain⟨⟨b0,b1,b2,b3⟩,g0,g1,g2,g3⟩:=BX.out.get4
       have HC:=hid (Cb.mk (A0:=A) (n0:=n) (r:=yd) (er:=ye) HZ.out (HO.out.1.q (by first | exact Q.refl _ | exact qa)) HO.out.2 BX.out hnb)
       go_simp
       refine hK.out _ _ ?_
       clear hK K
       try simp only[Act.put,sA,sB,sC]
       refine takH 11 ?_
       refine doneH ?_
       go_wp2_with fail
       go_meet
       exact HC.out
      refine consK (fun K hK=>?_) AllReadyL.nil
      have HZ:=hid hHeld
      obtain⟨⟨b0,b1,b2,b3⟩,g0,g1,g2,g3⟩:=BX.out.get4
      have HC:=hid (Cb.mk (A0:=A) (n0:=n) (r:=yd) (er:=ye) HZ.out (HO.out.1.q (by first | exact Q.refl _ | exact qa)) HO.out.2 BX.out hnb)
      go_simp
      refine hK.out _ _ ?_
      clear hK K
      try simp only[Act.put,sA,sB,sC]
      refine takH 8 ?_
      refine takH 11 ?_
      refine doneH ?_
      go_wp2_with fail
      go_meet
      exact HC.out
     refine consL (fun K hK=>?_) AllReadyL.nil
     go_simp
     have BX:=hid (Bx.new D0 [.slice none 0 0,.int .i64 0,.int .i64 0,.bool false] 24)
     have hnb:W15.heap.size≤D0.heap.size:=hHeld.size
     have qa:=(Q.refl D0).alloc (.cells #[.slice none 0 0,.int .i64 0,.int .i64 0,.bool false] 24)
     have BX:Hid (Bx (D0.alloc (.cells #[.slice none 0 0,.int .i64 0,.int .i64 0,.bool false] 24)) D0.heap.size [.slice none 0 0,.int .i64 0,.int .i64 0,.bool false]):=hid BX.out
     generalize D0.alloc (.cells #[.slice none 0 0,.int .i64 0,.int .i64 0,.bool false] 24)=Y2 at BX qa ⊢
     generalize D0.heap.size=nb at BX hnb ⊢
     refine hK.out _ _ (hHeld.trans qa) (fun hHeld=>?_)
     clear hK K
     try simp only[Act.put,sA,sB,sC]
     refine oneL 5 (fun K hK=>?_)
     go_simp
     refine(KC.out _ _ _ _ (HD.out.q (V2.out.q.trans hHeld))).mono ?_
     rintro e v3 ⟨A3,n3,c3,rfl,hd3,hf3,q3⟩
     have HO:=hid (And.intro hd3 (hf3.imp id (fun h ad e=>Nat.le_trans hHeld.size (h ad e))))
     clear hd3 hf3
     have BX:=hid (BX.out.q q3)
     go_wp2_with fail
     refine hK.out _ _ (hHeld.trans q3) (fun hHeld=>?_)
     clear hK K
     try simp only[Act.put,sA,sB,sC]
     refine takL 6 ?_
     refine takL 7 ?_
     refine wpAnyL_ready (rs:=[8,10]) (by kernel_rfl) (by simp) ?_
     refine consL (fun K hK=>?kzz38) ?_
     case kzz38 =>
      go_simp
      refine hK.out _ _ (hHeld) (fun hHeld=>?_)
      clear hK K
      try simp only[Act.put,sA,sB,sC]
      refine oneK (fun K hK=>?_)
      have HZ:=hid hHeld
      obtain⟨⟨b0,b1,b2,b3⟩,g0,g1,g2,g3⟩:=BX.out.get4
      have HC:=hid (Cb.mk (A0:=A) (n0:=n) (r:=yd) (er:=ye) HZ.out (HO.out.1.q (by first | exact Q.refl _ | exact qa)) HO.out.2 BX.out hnb)
      go_simp
      refine hK.out _ _ ?_
      clear hK K
      try simp only[Act.put,sA,sB,sC]
      refine takH 11 ?_
      refine doneH ?_
      go_wp2_with fail
      go_meet
      exact HC.out
     refine consK (fun K hK=>?_) AllReadyL.nil
     have HZ:=hid hHeld
     obtain⟨⟨b0,b1,b2,b3⟩,g0,g1,g2,g3⟩:=BX.out.get4
     have HC:=hid (Cb.mk (A0:=A) (n0:=n) (r:=yd) (er:=ye) HZ.out (HO.out.1.q (by first | exact Q.refl _ | exact qa)) HO.out.2 BX.out hnb)
     go_simp
     refine hK.out _ _ ?_
     clear hK K
     try simp only[Act.put,sA,sB,sC]
     refine takH 8 ?_
     refine takH 11 ?_
     refine doneH ?_
     go_wp2_with fail
     go_meet
     exact HC.out
    case rest =>
     obtain⟨g,A3,n3,c3,rfl,rfl,hg,hbx,hd3,hf3,q8⟩:=hcut
     have Y:=hid (V2.out.step q8)
     have YL:=hid (OL2.out.q q8)
     have HD3:=hid hd3
     have HF3:=hid (show A3=A∧n3=n∨Far w A3 from hf3.imp id (fun h ad e=>Nat.le_trans V2.out.q.size (h ad e)))
     clear e0 e1 e2 e3 f0 f1 f2' f3
     obtain⟨⟨b0,b1,b2,b3⟩,_⟩:=hbx.get4
     clear hbx hd3 hf3 q8
     by_cases hye:ye=0
     · subst hye
       have HQ:=hid (show x=(yd,rs++ms,k,0) from HX2.out.symm.trans (if_neg (by simp)))
       have F:=hid (endRK (d:=yd) (A0:=A) (n0:=n) Y.out.q Y.out.res (HD3.out) (HF3.out) (YL.out) (k) (0) (.slice A3 n3 c3) (.int .i64 yd.room) (.int .i64 yd.fuse) (.bool yd.off))
       obtain⟨⟨s0,s1,s2,s3⟩,h0,h1,h2,h3⟩:=Y.out.getR
       go_wp2
       (try rw[Exit.noGoto_ret])
       refine bodyPost_ret (v:=.tuple #[dkv A3 n3 c3 yd.room yd.fuse yd.off,.slice L2 (ln+ms.length) lc2,.int .i64 (k),.int .i64 (0)]) (by simp[results,Tryz.results34,go_sem,s0,s1,s2,s3]) rfl ?_
       rw[HQ.out]
       exact F.out
     · have i5:(ye == 0)=false:=by simpa using hye
       have i6:(ye != 0)=true:=by simpa using hye
       have HQ:=hid (show x=(yd,[],from_,ye) from HX2.out.symm.trans (if_pos hye))
       clear hye
       have F:=hid (endRK (d:=yd) (A0:=A) (n0:=n) Y.out.q Y.out.res (HD3.out) (HF3.out) (ownS_nil _ _) (from_) (ye) (.slice A3 n3 c3) (.int .i64 yd.room) (.int .i64 yd.fuse) (.bool yd.off))
       obtain⟨⟨s0,s1,s2,s3⟩,h0,h1,h2,h3⟩:=Y.out.getR
       go_wp2
       (try rw[Exit.noGoto_ret])
       refine bodyPost_ret (v:=.tuple #[dkv A3 n3 c3 yd.room yd.fuse yd.off,.slice none 0 0,.int .i64 (from_),.int .i64 (ye)]) (by simp[results,Tryz.results34,go_sem,s0,s1,s2,s3]) rfl ?_
       rw[HQ.out]
       exact F.out
end
section
open Go.RowKit Prm
variable {α:Type}
def Two (w:World)(b:Nat)(A:Option Addr)(n c:Nat)(B:Option Addr)(m d:Nat):Prop:=Bx w b [.slice A n c,.slice B m d]
end
section
open Go.RowKit Prm
variable {α:Type}
end
section
open Go.RowKit Prm
theorem box_b {B:Nat}{W w:World}(hb:Below B W w){p:Addr}{v:Value}(h:W.cell? p=some v)(hp:p.block<B):w.cell? p=some v:=(hb.cell hp).trans h
def KeysLow (l:List Pr):Prop:=∀ p∈l,p.key.size≤4611686018427387904
end
section
open Go.RowKit Prm
namespace Bm
theorem isM_at (m:UInt8){a:ByteArray}(h:0<a.size):isM m a=decide ((a[0]'h).toNat=m.toNat):=by
 have e:=ldrop_at a 0 h
 rw[List.drop_zero] at e
 unfold isM
 rw[e,List.head?_cons]
 by_cases hh:a[0]'h=m
 · rw[hh];simp
 · have:¬ (a[0]'h).toNat=m.toNat:=fun e=>hh (UInt8.toNat_inj.1 e)
   simp[hh,this]
theorem cut_ext (a:ByteArray):a.extract 1 a.size=cut a:=by
 rw[extract_list]
 unfold cut
 rw[List.take_of_length_le (by rw[Rn.size_data];exact Nat.le_refl _),List.drop_one]
end Bm
theorem refBack_any (A0:Option Addr)(n c0:Nat)(l:List Pr)(w:World)(hf:Lst pairK w A0 n l)(hb:n*32≤140737488355328)(hks:KeysLow l) :
  Calls Tryz.prog 33 #[.slice A0 n c0] w (RetS w (Bm.back l)):=by
 have HF:=hid hf
 have HL:=hid hf.len
 have HKs:=hid hks
 have hn0:n≤9223372036854775807:=by omega
 have hbn:=hid (fun h=>Bm.back_none (l:=l) h)
 have hbs:=hid (fun s h=>Bm.back_some (l:=l) (s:=s) h)
 clear hf hks
 generalize hR:Bm.back l=R at hbn hbs ⊢
 clear hR
 go_enter Tryz.func33,Tryz.ntmps33
 go_upto_region 2 with (fail)
 have X0:=hid (Bk.new w)
 generalize ((w.alloc (.cells #[.slice none 0 0,.slice none 0 0] 30)).alloc (.cells #[.slice none 0 0,.slice none 0 0] 30))=w2 at X0 ⊢
 go_wp2
 go_loopw [5] (fun i wr=>∃ (j:Nat) (sd st:List Pr) (A:Option Addr) (c:Nat) (B:Option Addr) (d:Nat),j≤n∧i=.int .i64 j∧Bk w A sd.length c B st.length d ⟨sd,st⟩ wr∧Bm.backL l ⟨[],[]⟩=Bm.backL (l.drop j) ⟨sd,st⟩∧sd.length+st.length=j) (fun i _=>n - (intOf i).toNat)
 case atStart=>exact⟨0,[],[],none,0,none,0,Nat.zero_le _,rfl,X0.out,rfl,rfl⟩
 case round =>
  obtain⟨j,sd,st,A,c,B,d,hj,rfl,x1,hT,hsum⟩:=hrel
  have X:=hid x1
  have HT:=hid hT
  clear x1 hT X0
  by_cases hlt:j<n
  · have hjl : j<l.length:=by have:=HL.out;omega
    have hjn:(j:Int)<(n:Int):=by omega
    have hj0:(0:Int)≤(j:Int):=by omega
    have HA:=hid (HT.out.trans (Bm.backL_at hjl ⟨sd,st⟩))
    have hky:=HKs.out l[j] (List.getElem_mem hjl)
    obtain⟨ad,rfl,hab,y0,y1⟩:=load_pair HF.out hlt hjl
    have y0:=box_ X.out.q y0
    have y1:=box_ X.out.q y1
    have hab2:ad.block<wr.heap.size:=Nat.lt_of_lt_of_le hab X.out.q.size
    generalize l[j]=x at y0 y1 HA hky
    obtain⟨a,b⟩:=x
    dsimp only at y0 y1 hky
    have hs1:(sd.length+1)*32≤140737488355328:=by omega
    have hs2:(st.length+1)*32≤140737488355328:=by omega
    by_cases hz:a=⟨#[]⟩
    · subst hz
      have HB:=hid (hbn.out (HA.out.trans (by rw[Bm.step_n (s:=⟨sd,st⟩) (p:=⟨⟨#[]⟩,b⟩) (fun h=>by cases h.1) (fun h=>by cases h.1)])))
      clear HA
      obtain⟨⟨p0,p1⟩,p2,p3⟩:=X.out.res.get2
      obtain⟨⟨b0,b1⟩,b2,b3⟩:=X.out.bb.get2
      go_wp2
      obtain⟨⟨r0,r1⟩,_⟩:=(X.out.res.set2 (.slice none 0 0) (.slice none 0 0)).get2
      refine bodyPost_ret (v:=.tuple #[staV none 0 0 none 0 0,.int .i64 3]) (by simp[results,Tryz.results33,go_sem,r0,r1]) rfl ?_
      rw[HB.out]
      exact⟨none,0,none,0,rfl,OwnK.nil_ _ _ _,OwnK.nil_ _ _ _,X.out.q.set2 (Nat.le_refl _) _ _⟩
    have hpos:0<a.size:=by
     rcases Nat.eq_zero_or_pos a.size with e | e
     · exact absurd (show a=ByteArray.empty by simpa using e) hz
     · exact e
    have hpi:(0:Int)<(a.size:Int):=by omega
    have hpj:(1:Int)≤(a.size:Int):=by omega
    have hz0:((a.size:Int) == 0)=false:=beq_eq_false_iff_ne.2 (by omega)
    have i1:=Bm.isM_at 100 hpos
    have i2:=Bm.isM_at 116 hpos
    have HE:=hid (Bm.cut_ext a)
    by_cases ha:(a[0]'hpos).toNat=100
    · have ha2:¬ (a[0]'hpos).toNat=116:=by omega
      rw[show (100:UInt8).toNat=100 from rfl,decide_eq_true ha] at i1
      rw[show (116:UInt8).toNat=116 from rfl,decide_eq_false ha2] at i2
      have f1:((a[0]'hpos).toNat == 100)=true:=by simpa using ha
      have f2:(((a[0]'hpos).toNat:Int) == 100)=true:=beq_iff_eq.2 (by omega)
      have f3:((a[0]'hpos).toNat != 116)=true:=by simpa using ha2
      have f4:(((a[0]'hpos).toNat:Int) != 116)=true:=by simp;omega
      by_cases hst:st=[]
      · have HN:=hid (HA.out.trans (by rw[Bm.step_d (s:=⟨sd,st⟩) (p:=⟨a,b⟩) i1 hst]):Bm.backL l ⟨[],[]⟩=Bm.backL (l.drop (j+1)) ⟨sd++[⟨Bm.cut a,b⟩],st⟩)
        have hl0:((st.length:Int) == 0)=true:=by rw[hst];rfl
        obtain⟨⟨b0,b1⟩,b2,b3⟩:=X.out.bb.get2
        have hE:=HE.out
        generalize Bm.cut a=Ka at HN hE
        clear ha ha2 HA hst i1 i2 HE hz
        go_wp2
        refine wp_region_heldL 13 (Below (w.heap.size+1+1) wr) (by kernel_rfl) ?szz0 (fun hHeld=>?rzz0)
        case szz0 =>
         exact(Below.refl _ _).drew
        refine takeL 0 ?v1 ?y1 ?_
        case y1=>intro w hSw;have s0:=box_b hSw b0 (by simp only;omega);have s1:=box_b hSw y0 (by rw[addr_block];omega);have s2:=box_b hSw y1 (by simp only[addr_block];omega);go_simp;try with_reducible rfl
        refine takeL 1 ?v2 ?y2 ?_
        case y2=>intro w hSw;have s0:=box_b hSw b0 (by simp only;omega);have s1:=box_b hSw y0 (by rw[addr_block];omega);have s2:=box_b hSw y1 (by simp only[addr_block];omega);go_simp;try with_reducible rfl
        refine takeL 2 ?v3 ?y3 ?_
        case y3=>intro w hSw;have s0:=box_b hSw b0 (by simp only;omega);have s1:=box_b hSw y0 (by rw[addr_block];omega);have s2:=box_b hSw y1 (by simp only[addr_block];omega);go_simp;try with_reducible rfl
        refine takeL 3 ?v4 ?y4 ?_
        case y4=>intro w hSw;have s0:=box_b hSw b0 (by simp only;omega);have s1:=box_b hSw y0 (by rw[addr_block];omega);have s2:=box_b hSw y1 (by simp only[addr_block];omega);go_simp;try with_reducible rfl
        refine takeL 4 ?v5 ?y5 ?_
        case y5=>intro w hSw;have s0:=box_b hSw b0 (by simp only;omega);have s1:=box_b hSw y0 (by rw[addr_block];omega);have s2:=box_b hSw y1 (by simp only[addr_block];omega);go_simp;try with_reducible rfl
        refine takeL 5 ?v6 ?y6 ?_
        case y6=>intro w hSw;have s0:=box_b hSw b0 (by simp only;omega);have s1:=box_b hSw y0 (by rw[addr_block];omega);have s2:=box_b hSw y1 (by simp only[addr_block];omega);go_simp;try with_reducible rfl
        refine takeL 6 ?v7 ?y7 ?_
        case y7=>intro w hSw;have s0:=box_b hSw b0 (by simp only;omega);have s1:=box_b hSw y0 (by rw[addr_block];omega);have s2:=box_b hSw y1 (by simp only[addr_block];omega);go_simp;try with_reducible rfl
        refine takeL 7 ?v8 ?y8 ?_
        case y8=>intro w hSw;have s0:=box_b hSw b0 (by simp only;omega);have s1:=box_b hSw y0 (by rw[addr_block];omega);have s2:=box_b hSw y1 (by simp only[addr_block];omega);go_simp;try with_reducible rfl
        refine takeL 8 ?v9 ?y9 ?_
        case y9=>intro w hSw;have s0:=box_b hSw b0 (by simp only;omega);have s1:=box_b hSw y0 (by rw[addr_block];omega);have s2:=box_b hSw y1 (by simp only[addr_block];omega);go_simp;try with_reducible rfl
        refine takeL 9 ?v10 ?y10 ?_
        case y10=>intro w hSw;have s0:=box_b hSw b0 (by simp only;omega);have s1:=box_b hSw y0 (by rw[addr_block];omega);have s2:=box_b hSw y1 (by simp only[addr_block];omega);go_simp;try with_reducible rfl
        refine oneL 10 (fun K hK=>?_)
        go_simp
        refine hK.out _ _ ?Szz14 (fun hHeld=>?_)
        case Szz14 =>
         first | exact((Below.refl _ _).drew).alloc (by have:=X.out.l;simp only[World.size_drew];omega) _ | exact((Below.refl _ _).alloc (by have:=X.out.l;omega) _).drew
        clear hK K
        try simp only[Act.put,sA,sB,sC]
        refine oneL 11 (fun K hK=>?_)
        refine step_appKG pairK (by rfl) _ _ _ rfl (by rfl) (w.heap.size+1+1) A sd.length c sd (by rfl) (X.out.step (((Q.refl wr).alloc (.cells #[.string Ka,.string b] 75)).drew)).o1 (some ⟨wr.heap.size,0,none⟩) 1 1 [⟨Ka,b⟩] (by rfl) (by have:=(lit_pair wr ⟨Ka,b⟩).q (Q.refl _).drew;simpa using this) (fun e=>by cases e) (by show (sd.length+1)*32≤_;omega) (X.out.step (((Q.refl wr).alloc (.cells #[.string Ka,.string b] 75)).drew)).l ?_
        intro A6 c6 w6 o6 g6 t6
        refine hK.out _ _ ?Szz13 (fun hHeld=>?_)
        case Szz13 =>
         exact(((Below.refl _ wr).alloc (by have:=X.out.l;omega) (.cells #[.string Ka,.string b] 75)).drew).trans (grown_below (X.out.step (((Q.refl wr).alloc (.cells #[.string Ka,.string b] 75)).drew)).o1 g6 (X.out.step (((Q.refl wr).alloc (.cells #[.string Ka,.string b] 75)).drew)).l)
        clear hK K
        try simp only[Act.put,sA,sB,sC]
        refine takL 12 ?_
        refine oneK (fun K hK=>?_)
        obtain⟨⟨p0,p1⟩,p2,p3⟩:=((X.out.step (((Q.refl wr).alloc (.cells #[.string Ka,.string b] 75)).drew)).bb.below (grown_below (X.out.step (((Q.refl wr).alloc (.cells #[.string Ka,.string b] 75)).drew)).o1 g6 (X.out.step (((Q.refl wr).alloc (.cells #[.string Ka,.string b] 75)).drew)).l) (by omega)).get2
        go_simp
        refine hK.out _ _ ?_
        clear hK K
        try simp only[Act.put,sA,sB,sC]
        refine doneH ?_
        have X9:=hid ((X.out.step (((Q.refl wr).alloc (.cells #[.string Ka,.string b] 75)).drew)).setData o6 g6 t6)
        go_wp2
        go_roundw
        case rel=>exact⟨j+1,sd++[⟨Ka,b⟩],st,A6,c6,B,d,by omega,by go_num,by rw[List.length_append];exact X9.out,HN.out,by rw[List.length_append];show sd.length+1+st.length=_;omega⟩
        case measure=>simp[intOf];omega
      · have hl1:st.length≠0:=fun e=>hst (List.eq_nil_of_length_eq_zero e)
        have HB:=hid (hbn.out (HA.out.trans (by rw[Bm.step_n (s:=⟨sd,st⟩) (p:=⟨a,b⟩) (fun h=>hst h.2) (fun h=>by have:=h.1;simp only at this;rw[i2] at this;cases this)])))
        generalize hmm:st.length=m at X hsum hs2 hl1
        clear hmm
        have hl0:((m:Int) == 0)=false:=by simp;omega
        clear hl1 HA hst i1 i2 HE hz ha ha2
        obtain⟨⟨p0,p1⟩,p2,p3⟩:=X.out.res.get2
        obtain⟨⟨b0,b1⟩,b2,b3⟩:=X.out.bb.get2
        go_wp2
        obtain⟨⟨r0,r1⟩,_⟩:=(X.out.res.set2 (.slice none 0 0) (.slice none 0 0)).get2
        refine bodyPost_ret (v:=.tuple #[staV none 0 0 none 0 0,.int .i64 3]) (by simp[results,Tryz.results33,go_sem,r0,r1]) rfl ?_
        rw[HB.out]
        exact⟨none,0,none,0,rfl,OwnK.nil_ _ _ _,OwnK.nil_ _ _ _,X.out.q.set2 (Nat.le_refl _) _ _⟩
    · have ha1:(a[0]'hpos).toNat≠100:=ha
      rw[show (100:UInt8).toNat=100 from rfl,decide_eq_false ha] at i1
      have f1:((a[0]'hpos).toNat == 100)=false:=by simpa using ha
      have f2:(((a[0]'hpos).toNat:Int) == 100)=false:=by simp;omega
      by_cases ht:(a[0]'hpos).toNat=116
      · rw [show (116:UInt8).toNat=116 from rfl,decide_eq_true ht] at i2
        have f3:((a[0]'hpos).toNat != 116)=false:=by simpa using ht
        have f4:(((a[0]'hpos).toNat:Int) != 116)=false:=by simp;omega
        by_cases hc:b=⟨#[99]⟩
        · subst hc
          have HN:=hid (HA.out.trans (by rw[Bm.step_t (s:=⟨sd,st⟩) (p:=⟨a,⟨#[99]⟩⟩) (fun h=>by have:=h.1;simp only at this;rw[i1] at this;cases this) i2 Bm.cg_c]):Bm.backL l ⟨[],[]⟩=Bm.backL (l.drop (j+1)) ⟨sd,st++[⟨Bm.cut a,⟨#[99]⟩⟩]⟩)
          obtain⟨⟨b0,b1⟩,b2,b3⟩:=X.out.bb.get2
          have hE:=HE.out
          generalize Bm.cut a=Ka at HN hE
          clear ha ht HA i1 i2 HE hz ha1
          go_wp2
          refine wp_region_heldL 13 (Below (w.heap.size+1+1) wr) (by kernel_rfl) ?szz15 (fun hHeld=>?rzz15)
          case szz15 =>
           exact(Below.refl _ _).drew
          refine takeL 0 ?v16 ?y16 ?_
          case y16=>intro w hSw;have s0:=box_b hSw b1 (by simp only;omega);have s1:=box_b hSw y0 (by rw[addr_block];omega);have s2:=box_b hSw y1 (by simp only[addr_block];omega);go_simp;try with_reducible rfl
          refine takeL 1 ?v17 ?y17 ?_
          case y17=>intro w hSw;have s0:=box_b hSw b1 (by simp only;omega);have s1:=box_b hSw y0 (by rw[addr_block];omega);have s2:=box_b hSw y1 (by simp only[addr_block];omega);go_simp;try with_reducible rfl
          refine takeL 2 ?v18 ?y18 ?_
          case y18=>intro w hSw;have s0:=box_b hSw b1 (by simp only;omega);have s1:=box_b hSw y0 (by rw[addr_block];omega);have s2:=box_b hSw y1 (by simp only[addr_block];omega);go_simp;try with_reducible rfl
          refine takeL 3 ?v19 ?y19 ?_
          case y19=>intro w hSw;have s0:=box_b hSw b1 (by simp only;omega);have s1:=box_b hSw y0 (by rw[addr_block];omega);have s2:=box_b hSw y1 (by simp only[addr_block];omega);go_simp;try with_reducible rfl
          refine takeL 4 ?v20 ?y20 ?_
          case y20=>intro w hSw;have s0:=box_b hSw b1 (by simp only;omega);have s1:=box_b hSw y0 (by rw[addr_block];omega);have s2:=box_b hSw y1 (by simp only[addr_block];omega);go_simp;try with_reducible rfl
          refine takeL 5 ?v21 ?y21 ?_
          case y21=>intro w hSw;have s0:=box_b hSw b1 (by simp only;omega);have s1:=box_b hSw y0 (by rw[addr_block];omega);have s2:=box_b hSw y1 (by simp only[addr_block];omega);go_simp;try with_reducible rfl
          refine takeL 6 ?v22 ?y22 ?_
          case y22=>intro w hSw;have s0:=box_b hSw b1 (by simp only;omega);have s1:=box_b hSw y0 (by rw[addr_block];omega);have s2:=box_b hSw y1 (by simp only[addr_block];omega);go_simp;try with_reducible rfl
          refine takeL 7 ?v23 ?y23 ?_
          case y23=>intro w hSw;have s0:=box_b hSw b1 (by simp only;omega);have s1:=box_b hSw y0 (by rw[addr_block];omega);have s2:=box_b hSw y1 (by simp only[addr_block];omega);go_simp;try with_reducible rfl
          refine takeL 8 ?v24 ?y24 ?_
          case y24=>intro w hSw;have s0:=box_b hSw b1 (by simp only;omega);have s1:=box_b hSw y0 (by rw[addr_block];omega);have s2:=box_b hSw y1 (by simp only[addr_block];omega);go_simp;try with_reducible rfl
          refine takeL 9 ?v25 ?y25 ?_
          case y25=>intro w hSw;have s0:=box_b hSw b1 (by simp only;omega);have s1:=box_b hSw y0 (by rw[addr_block];omega);have s2:=box_b hSw y1 (by simp only[addr_block];omega);go_simp;try with_reducible rfl
          refine oneL 10 (fun K hK=>?_)
          go_simp
          refine hK.out _ _ ?Szz29 (fun hHeld=>?_)
          case Szz29 =>
           first | exact((Below.refl _ _).drew).alloc (by have:=X.out.l;simp only[World.size_drew];omega) _ | exact((Below.refl _ _).alloc (by have:=X.out.l;omega) _).drew
          clear hK K
          try simp only[Act.put,sA,sB,sC]
          refine oneL 11 (fun K hK=>?_)
          refine step_appKG pairK (by rfl) _ _ _ rfl (by rfl) (w.heap.size+1+1) B st.length d st (by rfl) (X.out.step (((Q.refl wr).alloc (.cells #[.string Ka,.string ⟨#[99]⟩] 75)).drew)).o2 (some ⟨wr.heap.size,0,none⟩) 1 1 [⟨Ka,⟨#[99]⟩⟩] (by rfl) (by have:=(lit_pair wr ⟨Ka,⟨#[99]⟩⟩).q (Q.refl _).drew;simpa using this) (fun e=>by cases e) (by show (st.length+1)*32≤_;omega) (X.out.step (((Q.refl wr).alloc (.cells #[.string Ka,.string ⟨#[99]⟩] 75)).drew)).l ?_
          intro A6 c6 w6 o6 g6 t6
          refine hK.out _ _ ?Szz28 (fun hHeld=>?_)
          case Szz28 =>
           exact(((Below.refl _ wr).alloc (by have:=X.out.l;omega) (.cells #[.string Ka,.string ⟨#[99]⟩] 75)).drew).trans (grown_below (X.out.step (((Q.refl wr).alloc (.cells #[.string Ka,.string ⟨#[99]⟩] 75)).drew)).o2 g6 (X.out.step (((Q.refl wr).alloc (.cells #[.string Ka,.string ⟨#[99]⟩] 75)).drew)).l)
          clear hK K
          try simp only[Act.put,sA,sB,sC]
          refine takL 12 ?_
          refine oneK (fun K hK=>?_)
          obtain⟨⟨p0,p1⟩,p2,p3⟩:=((X.out.step (((Q.refl wr).alloc (.cells #[.string Ka,.string ⟨#[99]⟩] 75)).drew)).bb.below (grown_below (X.out.step (((Q.refl wr).alloc (.cells #[.string Ka,.string ⟨#[99]⟩] 75)).drew)).o2 g6 (X.out.step (((Q.refl wr).alloc (.cells #[.string Ka,.string ⟨#[99]⟩] 75)).drew)).l) (by omega)).get2
          go_simp
          refine hK.out _ _ ?_
          clear hK K
          try simp only[Act.put,sA,sB,sC]
          refine doneH ?_
          have X9:=hid ((X.out.step (((Q.refl wr).alloc (.cells #[.string Ka,.string ⟨#[99]⟩] 75)).drew)).setToks o6 g6 t6)
          go_wp2
          go_roundw
          case rel=>exact⟨j+1,sd,st++[⟨Ka,⟨#[99]⟩⟩],A,c,A6,c6,by omega,by go_num,by rw[List.length_append];exact X9.out,HN.out,by rw[List.length_append];show sd.length+(st.length+1)=_;omega⟩
          case measure=>simp[intOf];omega
        · by_cases hg:b=⟨#[103]⟩
          · subst hg
            have HN:=hid (HA.out.trans (by rw[Bm.step_t (s:=⟨sd,st⟩) (p:=⟨a,⟨#[103]⟩⟩) (fun h=>by have:=h.1;simp only at this;rw[i1] at this;cases this) i2 Bm.cg_g]):Bm.backL l ⟨[],[]⟩=Bm.backL (l.drop (j+1)) ⟨sd,st++[⟨Bm.cut a,⟨#[103]⟩⟩]⟩)
            obtain⟨⟨b0,b1⟩,b2,b3⟩:=X.out.bb.get2
            have hE:=HE.out
            generalize Bm.cut a=Ka at HN hE
            clear ha ht HA hc i1 i2 HE hz ha1
            go_wp2
            refine wp_region_heldL 13 (Below (w.heap.size+1+1) wr) (by kernel_rfl) ?szz30 (fun hHeld=>?rzz30)
            case szz30 =>
             exact(Below.refl _ _).drew
            refine takeL 0 ?v31 ?y31 ?_
            case y31=>intro w hSw;have s0:=box_b hSw b1 (by simp only;omega);have s1:=box_b hSw y0 (by rw[addr_block];omega);have s2:=box_b hSw y1 (by simp only[addr_block];omega);go_simp;try with_reducible rfl
            refine takeL 1 ?v32 ?y32 ?_
            case y32=>intro w hSw;have s0:=box_b hSw b1 (by simp only;omega);have s1:=box_b hSw y0 (by rw[addr_block];omega);have s2:=box_b hSw y1 (by simp only[addr_block];omega);go_simp;try with_reducible rfl
            refine takeL 2 ?v33 ?y33 ?_
            case y33=>intro w hSw;have s0:=box_b hSw b1 (by simp only;omega);have s1:=box_b hSw y0 (by rw[addr_block];omega);have s2:=box_b hSw y1 (by simp only[addr_block];omega);go_simp;try with_reducible rfl
            refine takeL 3 ?v34 ?y34 ?_
            case y34=>intro w hSw;have s0:=box_b hSw b1 (by simp only;omega);have s1:=box_b hSw y0 (by rw[addr_block];omega);have s2:=box_b hSw y1 (by simp only[addr_block];omega);go_simp;try with_reducible rfl
            refine takeL 4 ?v35 ?y35 ?_
            case y35=>intro w hSw;have s0:=box_b hSw b1 (by simp only;omega);have s1:=box_b hSw y0 (by rw[addr_block];omega);have s2:=box_b hSw y1 (by simp only[addr_block];omega);go_simp;try with_reducible rfl
            refine takeL 5 ?v36 ?y36 ?_
            case y36=>intro w hSw;have s0:=box_b hSw b1 (by simp only;omega);have s1:=box_b hSw y0 (by rw[addr_block];omega);have s2:=box_b hSw y1 (by simp only[addr_block];omega);go_simp;try with_reducible rfl
            refine takeL 6 ?v37 ?y37 ?_
            case y37=>intro w hSw;have s0:=box_b hSw b1 (by simp only;omega);have s1:=box_b hSw y0 (by rw[addr_block];omega);have s2:=box_b hSw y1 (by simp only[addr_block];omega);go_simp;try with_reducible rfl
            refine takeL 7 ?v38 ?y38 ?_
            case y38=>intro w hSw;have s0:=box_b hSw b1 (by simp only;omega);have s1:=box_b hSw y0 (by rw[addr_block];omega);have s2:=box_b hSw y1 (by simp only[addr_block];omega);go_simp;try with_reducible rfl
            refine takeL 8 ?v39 ?y39 ?_
            case y39=>intro w hSw;have s0:=box_b hSw b1 (by simp only;omega);have s1:=box_b hSw y0 (by rw[addr_block];omega);have s2:=box_b hSw y1 (by simp only[addr_block];omega);go_simp;try with_reducible rfl
            refine takeL 9 ?v40 ?y40 ?_
            case y40=>intro w hSw;have s0:=box_b hSw b1 (by simp only;omega);have s1:=box_b hSw y0 (by rw[addr_block];omega);have s2:=box_b hSw y1 (by simp only[addr_block];omega);go_simp;try with_reducible rfl
            refine oneL 10 (fun K hK=>?_)
            go_simp
            refine hK.out _ _ ?Szz44 (fun hHeld=>?_)
            case Szz44 =>
             first | exact((Below.refl _ _).drew).alloc (by have:=X.out.l;simp only[World.size_drew];omega) _ | exact((Below.refl _ _).alloc (by have:=X.out.l;omega) _).drew
            clear hK K
            try simp only[Act.put,sA,sB,sC]
            refine oneL 11 (fun K hK=>?_)
            refine step_appKG pairK (by rfl) _ _ _ rfl (by rfl) (w.heap.size+1+1) B st.length d st (by rfl) (X.out.step (((Q.refl wr).alloc (.cells #[.string Ka,.string ⟨#[103]⟩] 75)).drew)).o2 (some ⟨wr.heap.size,0,none⟩) 1 1 [⟨Ka,⟨#[103]⟩⟩] (by rfl) (by have:=(lit_pair wr ⟨Ka,⟨#[103]⟩⟩).q (Q.refl _).drew;simpa using this) (fun e=>by cases e) (by show (st.length+1)*32≤_;omega) (X.out.step (((Q.refl wr).alloc (.cells #[.string Ka,.string ⟨#[103]⟩] 75)).drew)).l ?_
            intro A6 c6 w6 o6 g6 t6
            refine hK.out _ _ ?Szz43 (fun hHeld=>?_)
            case Szz43 =>
             exact(((Below.refl _ wr).alloc (by have:=X.out.l;omega) (.cells #[.string Ka,.string ⟨#[103]⟩] 75)).drew).trans (grown_below (X.out.step (((Q.refl wr).alloc (.cells #[.string Ka,.string ⟨#[103]⟩] 75)).drew)).o2 g6 (X.out.step (((Q.refl wr).alloc (.cells #[.string Ka,.string ⟨#[103]⟩] 75)).drew)).l)
            clear hK K
            try simp only[Act.put,sA,sB,sC]
            refine takL 12 ?_
            refine oneK (fun K hK=>?_)
            obtain⟨⟨p0,p1⟩,p2,p3⟩:=((X.out.step (((Q.refl wr).alloc (.cells #[.string Ka,.string ⟨#[103]⟩] 75)).drew)).bb.below (grown_below (X.out.step (((Q.refl wr).alloc (.cells #[.string Ka,.string ⟨#[103]⟩] 75)).drew)).o2 g6 (X.out.step (((Q.refl wr).alloc (.cells #[.string Ka,.string ⟨#[103]⟩] 75)).drew)).l) (by omega)).get2
            go_simp
            refine hK.out _ _ ?_
            clear hK K
            try simp only[Act.put,sA,sB,sC]
            refine doneH ?_
            have X9:=hid ((X.out.step (((Q.refl wr).alloc (.cells #[.string Ka,.string ⟨#[103]⟩] 75)).drew)).setToks o6 g6 t6)
            go_wp2
            go_roundw
            case rel=>exact⟨j+1,sd,st++[⟨Ka,⟨#[103]⟩⟩],A,c,A6,c6,by omega,by go_num,by rw[List.length_append];exact X9.out,HN.out,by rw[List.length_append];show sd.length+(st.length+1)=_;omega⟩
            case measure=>simp[intOf];omega
          · have HB:=hid (hbn.out (HA.out.trans (by rw[Bm.step_n (s:=⟨sd,st⟩) (p:=⟨a,b⟩) (fun h=>by have:=h.1;simp only at this;rw[i1] at this;cases this) (fun h=>by have:=h.2;simp only at this;rw[Bm.cg_no hc hg] at this;cases this)])))
            have hc1:(b.toList == (⟨#[99]⟩:ByteArray).toList)=false:=by rw[same_str];simpa using hc
            have hg1:(b.toList == (⟨#[103]⟩:ByteArray).toList)=false:=by rw[same_str];simpa using hg
            have hc2:(b.toList == [99])=false:=by rw[show (⟨#[99]⟩:ByteArray).toList=[99] by rw[ByteArray.toList_eq]] at hc1;exact hc1
            have hg2:(b.toList == [103])=false:=by rw[show (⟨#[103]⟩:ByteArray).toList=[103] by rw[ByteArray.toList_eq]] at hg1;exact hg1
            clear ha ht HA hc hg i1 i2 HE hz ha1
            obtain⟨⟨p0,p1⟩,p2,p3⟩:=X.out.res.get2
            obtain⟨⟨b0,b1⟩,b2,b3⟩:=X.out.bb.get2
            go_wp2
            obtain⟨⟨r0,r1⟩,_⟩:=(X.out.res.set2 (.slice none 0 0) (.slice none 0 0)).get2
            refine bodyPost_ret (v:=.tuple #[staV none 0 0 none 0 0,.int .i64 3]) (by simp[results,Tryz.results33,go_sem,r0,r1]) rfl ?_
            rw[HB.out]
            exact⟨none,0,none,0,rfl,OwnK.nil_ _ _ _,OwnK.nil_ _ _ _,X.out.q.set2 (Nat.le_refl _) _ _⟩
      · rw[show (116:UInt8).toNat=116 from rfl,decide_eq_false ht] at i2
        have f3:((a[0]'hpos).toNat != 116)=true:=by simpa using ht
        have f4:(((a[0]'hpos).toNat:Int) != 116)=true:=by simp;omega
        have HB:=hid (hbn.out (HA.out.trans (by rw[Bm.step_n (s:=⟨sd,st⟩) (p:=⟨a,b⟩) (fun h=>by have:=h.1;simp only at this;rw[i1] at this;cases this) (fun h=>by have:=h.1;simp only at this;rw[i2] at this;cases this)])))
        clear ha ht HA i1 i2 HE hz ha1
        obtain⟨⟨p0,p1⟩,p2,p3⟩:=X.out.res.get2
        obtain⟨⟨b0,b1⟩,b2,b3⟩:=X.out.bb.get2
        go_wp2
        obtain⟨⟨r0,r1⟩,_⟩:=(X.out.res.set2 (.slice none 0 0) (.slice none 0 0)).get2
        refine bodyPost_ret (v:=.tuple #[staV none 0 0 none 0 0,.int .i64 3]) (by simp[results,Tryz.results33,go_sem,r0,r1]) rfl ?_
        rw[HB.out]
        exact⟨none,0,none,0,rfl,OwnK.nil_ _ _ _,OwnK.nil_ _ _ _,X.out.q.set2 (Nat.le_refl _) _ _⟩
  · have hjn:¬((j:Int)<(n:Int)):=by omega
    have HB:=hid (hbs.out ⟨sd,st⟩ (HT.out.trans (by rw[List.drop_of_length_le (by have:=HL.out;omega)];rfl)))
    obtain⟨⟨b0,b1⟩,b2,b3⟩:=X.out.bb.get2
    obtain⟨⟨p0,p1⟩,p2,p3⟩:=X.out.res.get2
    go_wp2
    obtain⟨⟨r0,r1⟩,_⟩:=(X.out.res.set2 (.slice A sd.length c) (.slice B st.length d)).get2
    refine bodyPost_ret (v:=.tuple #[staV A sd.length c B st.length d,.int .i64 0]) (by simp[results,Tryz.results33,go_sem,r0,r1]) rfl ?_
    rw[HB.out]
    exact⟨A,c,B,d,rfl,(X.out.o1.set2 (b:=w.heap.size) (by omega) _ _).lower (by omega),(X.out.o2.set2 (b:=w.heap.size) (by omega) _ _).lower (by omega),X.out.q.set2 (Nat.le_refl _) _ _⟩
end
end Go.Proofs.YtccoknaaofmbcaaGreatDoor
