/- KvCommit, KvCommit2, BatchShown, KvShown, Bulk, FrameRow, TabLaid, KvLaid, DiskIn, KvIn, BatchSame: merged. -/
import Derived.Test.YtccoknaaofmbcaaGreatDoorO12
import Derived.Test.YtccoknaaofmbcaaGreatDoorO9
import Derived.Test.YtccoknaaofmbcaaGreatDoorO11
import Derived.Test.YtccoknaaofmbcaaGreatDoorO5
import Derived.Test.YtccoknaaofmbcaaGreatDoorO13
import Derived.Test.YtccoknaaofmbcaaGreatDoorO4
import Derived.Test.YtccoknaaofmbcaaGreatDoorO10
import Derived.Test.YtccoknaaofmbcaaGreatDoorO8
import Derived.Test.YtccoknaaofmbcaaGreatDoorCards
import Derived.Test.YtccoknaaofmbcaaGreatDoorTie
import Derived.Deep.DeepHandedRow
import Derived.SevenTiedAt
import Derived.LaidMore
import Derived.MakeChecks
import Derived.Stop.LaidErr
import Derived.Deep.DeepWitnessRowRef
import Derived.LaidHandle
import Derived.LaidSub
import Derived.Stop.LaidTwo
import Derived.Test.YtccoknaaofmbcaaGreatDoorO1
import Derived.Test.YtccoknaaofmbcaaGreatDoorO2
import Derived.Test.YtccoknaaofmbcaaGreatDoorO7
set_option linter.unusedVariables false
set_option linter.unusedSimpArgs false
set_option maxRecDepth 100000
set_option maxHeartbeats 16000000
open Go.Lib (hid)
namespace Go.Proofs.YtccoknaaofmbcaaGreatDoor
section
open Go.RowKit Dkm Prm Km Wm
theorem errV_is (a b:Addr){e:Int}(h:e≠0):∃ T u,Value.iface T u=errV a b e:=⟨_,_,by unfold errV;rw[if_neg h]⟩
def RetE (w:World)(a b:Addr)(y:Ks×Int)(e:Ending)(w':World):Prop:=∃ p,e=.returned (.tuple #[kvV p y.1,errV a b y.2])∧Kr w' p y.1∧Q w w'
theorem Kc.finE {w wi:World}{r:Nat}{p p2:Kp}{x x2:Ks}(h:Kc w r p x wi)(hk:Kr wi p2 x2)(a b:Addr)(er:Int):RetE w a b (x2,er) (.returned (.tuple #[kvV p2 x2,errV a b er])) (stk wi r (us10 p2 x2)):=
 ⟨p2,rfl,(Kb.whole (y:=ks0) (q:=p0) h.res hk).is,Q.stk (Nat.le_of_lt h.lt) _ h.q⟩
structure Kz (w:World) (p:Kp) (x:Ks) (k:Int) (tok:ByteArray) (D:Option Addr) (dn dc:Nat) (wi:World):Prop where
 kc:Kc w (w.heap.size+1+1) p x wi
 bb:Bx wi (w.heap.size+1) [.int .i64 k,.string tok,.slice D dn dc]
theorem Kz.new {w:World}{p:Kp}{x:Ks}(h:Kr w p x)(k:Int)(tok:ByteArray)(D:Option Addr)(dn dc:Nat) :
  Kz w p x k tok D dn dc (((w.alloc (.cells (kL p x).toArray 32)).alloc (.cells #[.int .i64 k,.string tok,.slice D dn dc] 48)).alloc (.cells (kL p0 ks0).toArray 32)):=by
 refine⟨⟨((Kb.new h).q ((Q.refl _).alloc _)).q ((Q.refl _).alloc _),?_,(((Q.refl w).alloc _).alloc _).alloc _,by omega⟩,?_⟩
 · have:=Bx.new ((w.alloc (.cells (kL p x).toArray 32)).alloc (.cells #[.int .i64 k,.string tok,.slice D dn dc] 48)) (kL p0 ks0) 32
   rw[show ((w.alloc (.cells (kL p x).toArray 32)).alloc (.cells #[.int .i64 k,.string tok,.slice D dn dc] 48)).heap.size=w.heap.size+1+1 by simp] at this
   exact this
 · have:=(Bx.new (w.alloc (.cells (kL p x).toArray 32)) [.int .i64 k,.string tok,.slice D dn dc] 48).alloc (.cells (kL p0 ks0).toArray 32)
   rw[show (w.alloc (.cells (kL p x).toArray 32)).heap.size=w.heap.size+1 by simp] at this
   exact this
section
variable {w wi wj:World} {p:Kp} {x:Ks} {k:Int} {tok:ByteArray} {D:Option Addr} {dn dc:Nat}
theorem Kz.step (h:Kz w p x k tok D dn dc wi)(q:Q wi wj):Kz w p x k tok D dn dc wj:=⟨h.kc.step q,h.bb.q q⟩
structure Ky (w:World) (p:Kp) (x:Ks) (k:Int) (tok:ByteArray) (D:Option Addr) (dn dc:Nat) (g:Nat) (B2:Option Addr) (bn2 bc2:Nat) (C2:Option Addr) (cn2 cc2:Nat) (s2:Bm.Sta) (wi:World):Prop where
 kz:Kz w p x k tok D dn dc wi
 sb:Bx wi g [.slice B2 bn2 bc2,.slice C2 cn2 cc2]
 gt:w.heap.size+1+1<g
 data:In_ pairK wi B2 bn2 bc2 s2.data
 toks:In_ pairK wi C2 cn2 cc2 s2.toks
variable {g:Nat} {B2:Option Addr} {bn2 bc2:Nat} {C2:Option Addr} {cn2 cc2:Nat} {s2:Bm.Sta}
theorem Ky.step (h:Ky w p x k tok D dn dc g B2 bn2 bc2 C2 cn2 cc2 s2 wi)(q:Q wi wj):Ky w p x k tok D dn dc g B2 bn2 bc2 C2 cn2 cc2 s2 wj:=⟨h.kz.step q,h.sb.q q,h.gt,h.data.q q,h.toks.q q⟩
theorem Kz.state (h:Kz w p x k tok D dn dc wi)(hd:In_ pairK wi B2 bn2 bc2 s2.data)(ht:In_ pairK wi C2 cn2 cc2 s2.toks) :
  Ky w p x k tok D dn dc wi.heap.size B2 bn2 bc2 C2 cn2 cc2 s2 (wi.alloc (.cells #[.slice B2 bn2 bc2,.slice C2 cn2 cc2] 30)):=by
 have hl:=h.kc.l
 have hq:Q wi (wi.alloc (.cells #[.slice B2 bn2 bc2,.slice C2 cn2 cc2] 30)):=(Q.refl wi).alloc _
 exact⟨h.step hq,Bx.new wi [.slice B2 bn2 bc2,.slice C2 cn2 cc2] 30,by omega,hd.q hq,ht.q hq⟩
theorem Ky.put (h:Ky w p x k tok D dn dc g B2 bn2 bc2 C2 cn2 cc2 s2 wi)(us:List (Nat×Value))(hu:∀ u∈us,u.1<(kL p x).length∧NT u.2){p':Kp}{x':Ks}{W:World}(hw:stk wi w.heap.size us=W)(hk:Kc w (w.heap.size+1+1) p' x' W) :
  Ky w p' x' k tok D dn dc g B2 bn2 bc2 C2 cn2 cc2 s2 W:=by
 subst hw
 exact⟨⟨hk,h.kz.bb.far_stk (by omega) us⟩,h.sb.far_stk (by have:=h.gt;omega) us,h.gt,h.data.stk h.kz.kc.kb.box (kL_nt _ _) us hu,h.toks.stk h.kz.kc.kb.box (kL_nt _ _) us hu⟩
theorem Ky.disk (h:Ky w p x k tok D dn dc g B2 bn2 bc2 C2 cn2 cc2 s2 wi){A2:Option Addr}{n2 c2:Nat}{d2:Dk}(hd:Dsk wi A2 n2 c2 d2.fs) :
  Ky w ⟨A2,n2,c2,p.B,p.bn,p.bc,p.C,p.cn,p.cc⟩ ⟨d2,x.frm,x.seg,x.run,x.s,x.down⟩ k tok D dn dc g B2 bn2 bc2 C2 cn2 cc2 s2 ((((wi.setCell ⟨w.heap.size,0,none⟩ (.slice A2 n2 c2)).setCell ⟨w.heap.size,1,none⟩ (.int .i64 d2.room)).setCell ⟨w.heap.size,2,none⟩ (.int .i64 d2.fuse)).setCell ⟨w.heap.size,3,none⟩ (.bool d2.off)):=by
 have hok:∀ u∈[(0,Value.slice A2 n2 c2),(1,.int .i64 d2.room),(2,.int .i64 d2.fuse),(3,.bool d2.off)],u.1<(kL p x).length∧NT u.2:=by
  intro u hu
  simp only[List.mem_cons,List.not_mem_nil,or_false] at hu
  rcases hu with rfl | rfl | rfl | rfl<;>exact⟨by simp[kL],fun s e=>by cases e⟩
 have hk:=h.kz.kc.disk hd
 exact Ky.put h _ hok (by simp only[stk]) hk
theorem Ky.segm (h:Ky w p x k tok D dn dc g B2 bn2 bc2 C2 cn2 cc2 s2 wi)(seg2:Int) :
  Ky w p ⟨x.d,x.frm,seg2,x.run,x.s,x.down⟩ k tok D dn dc g B2 bn2 bc2 C2 cn2 cc2 s2 (wi.setCell ⟨w.heap.size,5,none⟩ (.int .i64 seg2)):=by
 have hok:∀ u∈[(5,Value.int .i64 seg2)],u.1<(kL p x).length∧NT u.2:=by
  intro u hu
  simp only[List.mem_cons,List.not_mem_nil,or_false] at hu
  rcases hu with rfl<;>exact⟨by simp[kL],fun s e=>by cases e⟩
 have hk:=h.kz.kc.segm seg2
 exact Ky.put h _ hok (by simp only[stk]) hk
end
theorem commit_down {A:Option Addr}{n c:Nat}{B:Option Addr}{bn bc:Nat}{C:Option Addr}{cn cc:Nat}{D:Option Addr}{dn dc:Nat}{l:List Fil}{room fuse:Int}{off:Bool}{frm seg run:Int}{s:Bm.Sta}(k:Int)(tok:ByteArray)(ws:List Wr)(w:World)(a b:Addr)(HK:Hid (Kr w ⟨A,n,c,B,bn,bc,C,cn,cc⟩ ⟨⟨l,room,fuse,off⟩,frm,seg,run,s,true⟩))(KW:Hid (∀ (e:Int) W,Q w W→Calls Tryz.prog 71 #[.int .i64 e] W fun ev w'=>ev=.returned (errV a b e)∧Q W w'))(y:Ks×Int)(HR:Hid (y=(⟨⟨l,room,fuse,off⟩,frm,seg,run,s,true⟩,6))) :
    Calls Tryz.prog 48 #[kvV ⟨A,n,c,B,bn,bc,C,cn,cc⟩ ⟨⟨l,room,fuse,off⟩,frm,seg,run,s,true⟩,batV k tok D dn dc] w (RetE w a b y):=by
  obtain⟨T,u,hve⟩:∃ T u,Value.iface T u=errV a b 6:=errV_is a b (by decide)
  have KV:Hid (∀ W,Q w W→Calls Tryz.prog 71 #[.int .i64 6] W fun ev w'=>ev=.returned (.iface T u)∧Q W w'):=hid (fun W q=>by rw[hve];exact KW.out 6 W q)
  have HV:=hid hve
  clear hve KW
  have Z:Hid (Kz w ⟨A,n,c,B,bn,bc,C,cn,cc⟩ ⟨⟨l,room,fuse,off⟩,frm,seg,run,s,true⟩ k tok D dn dc (((w.alloc (.cells #[.slice A n c,.int .i64 room,.int .i64 fuse,.bool off,.int .i64 frm,.int .i64 seg,.int .i64 run,.slice B bn bc,.slice C cn cc,.bool true] 32)).alloc (.cells #[.int .i64 k,.string tok,.slice D dn dc] 48)).alloc (.cells #[.slice none 0 0,.int .i64 0,.int .i64 0,.bool false,.int .i64 0,.int .i64 0,.int .i64 0,.slice none 0 0,.slice none 0 0,.bool false] 32))):=hid (Kz.new HK.out k tok D dn dc)
  go_enter Tryz.func48,Tryz.ntmps48
  go_upto_region 1 with (fail)
  generalize (((w.alloc (.cells #[.slice A n c,.int .i64 room,.int .i64 fuse,.bool off,.int .i64 frm,.int .i64 seg,.int .i64 run,.slice B bn bc,.slice C cn cc,.bool true] 32)).alloc (.cells #[.int .i64 k,.string tok,.slice D dn dc] 48)).alloc (.cells #[.slice none 0 0,.int .i64 0,.int .i64 0,.bool false,.int .i64 0,.int .i64 0,.int .i64 0,.slice none 0 0,.slice none 0 0,.bool false] 32))=W at Z ⊢
  have Y:=hid Z.out.kc
  clear Z HK
  obtain⟨e0,e1,e2,e3,e4,e5,e6,e7,e8,e9⟩:=kget Y.out.kb.box
  obtain⟨f0,f1,f2,f3,f4,f5,f6,f7,f8,f9⟩:=kfree Y.out.kb.box
  go_upto_region 2 with (fail)
  refine wp_region_held_drew (S:=fun w'=>Bx w' w.heap.size (kL ⟨A,n,c,B,bn,bc,C,cn,cc⟩ ⟨⟨l,room,fuse,off⟩,frm,seg,run,s,true⟩)) (by kernel_rfl) ?szz0 (fun hHeld=>?rzz0)
  case szz0 =>
   exact Y.out.kb.box.drew
  refine takeH 0 ?v1 ?y1 ?_
  case y1=>intro w hSw;obtain⟨s0,s1,s2,s3,s4,s5,s6,s7,s8,s9⟩:=kget hSw;go_simp;try with_reducible rfl
  refine oneH 1 (fun K hK=>?_)
  go_simp
  refine(KV.out _ (Y.out.q.trans (Q.refl _).drew)).mono ?_
  rintro e w4 ⟨rfl,q4⟩
  have V:=hid (Y.out.step ((Q.refl _).drew.trans q4))
  have F:Hid (RetE w a b (⟨⟨l,room,fuse,off⟩,frm,seg,run,s,true⟩,6) (.returned (.tuple #[kvV ⟨A,n,c,B,bn,bc,C,cn,cc⟩ ⟨⟨l,room,fuse,off⟩,frm,seg,run,s,true⟩,.iface T u])) ((((((((((w4.setCell ⟨w.heap.size+1+1,0,none⟩ (.slice A n c)).setCell ⟨w.heap.size+1+1,1,none⟩ (.int .i64 room)).setCell ⟨w.heap.size+1+1,2,none⟩ (.int .i64 fuse)).setCell ⟨w.heap.size+1+1,3,none⟩ (.bool off)).setCell ⟨w.heap.size+1+1,4,none⟩ (.int .i64 frm)).setCell ⟨w.heap.size+1+1,5,none⟩ (.int .i64 seg)).setCell ⟨w.heap.size+1+1,6,none⟩ (.int .i64 run)).setCell ⟨w.heap.size+1+1,7,none⟩ (.slice B bn bc)).setCell ⟨w.heap.size+1+1,8,none⟩ (.slice C cn cc)).setCell ⟨w.heap.size+1+1,9,none⟩ (.bool true))):=hid (by rw[HV.out];exact V.out.finE V.out.kb.is a b 6)
  have R:Hid (Bx ((((((((((w4.setCell ⟨w.heap.size+1+1,0,none⟩ (.slice A n c)).setCell ⟨w.heap.size+1+1,1,none⟩ (.int .i64 room)).setCell ⟨w.heap.size+1+1,2,none⟩ (.int .i64 fuse)).setCell ⟨w.heap.size+1+1,3,none⟩ (.bool off)).setCell ⟨w.heap.size+1+1,4,none⟩ (.int .i64 frm)).setCell ⟨w.heap.size+1+1,5,none⟩ (.int .i64 seg)).setCell ⟨w.heap.size+1+1,6,none⟩ (.int .i64 run)).setCell ⟨w.heap.size+1+1,7,none⟩ (.slice B bn bc)).setCell ⟨w.heap.size+1+1,8,none⟩ (.slice C cn cc)).setCell ⟨w.heap.size+1+1,9,none⟩ (.bool true)) (w.heap.size+1+1) (kL ⟨A,n,c,B,bn,bc,C,cn,cc⟩ ⟨⟨l,room,fuse,off⟩,frm,seg,run,s,true⟩)):=hid (V.out.boxR ⟨A,n,c,B,bn,bc,C,cn,cc⟩ ⟨⟨l,room,fuse,off⟩,frm,seg,run,s,true⟩)
  have U:Hid (Bx ((((((((((w4.setCell ⟨w.heap.size+1+1,0,none⟩ (.slice A n c)).setCell ⟨w.heap.size+1+1,1,none⟩ (.int .i64 room)).setCell ⟨w.heap.size+1+1,2,none⟩ (.int .i64 fuse)).setCell ⟨w.heap.size+1+1,3,none⟩ (.bool off)).setCell ⟨w.heap.size+1+1,4,none⟩ (.int .i64 frm)).setCell ⟨w.heap.size+1+1,5,none⟩ (.int .i64 seg)).setCell ⟨w.heap.size+1+1,6,none⟩ (.int .i64 run)).setCell ⟨w.heap.size+1+1,7,none⟩ (.slice B bn bc)).setCell ⟨w.heap.size+1+1,8,none⟩ (.slice C cn cc)).setCell ⟨w.heap.size+1+1,9,none⟩ (.bool true)) w.heap.size (kL ⟨A,n,c,B,bn,bc,C,cn,cc⟩ ⟨⟨l,room,fuse,off⟩,frm,seg,run,s,true⟩)):=hid (V.out.kb.box.far_stk (by have:=V.out.lt;omega) (us10 ⟨A,n,c,B,bn,bc,C,cn,cc⟩ ⟨⟨l,room,fuse,off⟩,frm,seg,run,s,true⟩))
  go_wp2_with fail
  refine hK.out _ _ (V.out.kb.box) (fun hHeld=>?_)
  clear hK K
  try simp only[Act.put,sA,sB,sC]
  refine oneH 2 (fun K hK=>?_)
  obtain⟨g0,g1,g2,g3,g4,g5,g6,g7,g8,g9⟩:=kfree V.out.res
  obtain⟨i0,i1,i2,i3,i4,i5,i6,i7,i8,i9⟩:=kget V.out.res
  go_simp
  refine hK.out _ _ (U.out) (fun hHeld=>?_)
  clear hK K
  try simp only[Act.put,sA,sB,sC]
  refine tadH 3 ?_
  refine doneH ?_
  clear V Y q4 U
  go_wp2
  (try rw[Exit.noGoto_ret])
  obtain⟨r0,r1,r2,r3,r4,r5,r6,r7,r8,r9⟩:=kget R.out
  refine bodyPost_ret (v:=.tuple #[kvV ⟨A,n,c,B,bn,bc,C,cn,cc⟩ ⟨⟨l,room,fuse,off⟩,frm,seg,run,s,true⟩,.iface T u]) (by simp[results,Tryz.results48,go_sem,r0,r1,r2,r3,r4,r5,r6,r7,r8,r9]) rfl ?_
  rw[HR.out]
  exact F.out
theorem commit_bad {A:Option Addr}{n c:Nat}{B:Option Addr}{bn bc:Nat}{C:Option Addr}{cn cc:Nat}{D:Option Addr}{dn dc:Nat}{l:List Fil}{room fuse:Int}{off:Bool}{frm seg run:Int}{s:Bm.Sta}(k:Int)(tok:ByteArray)(ws:List Wr)(w:World)(a b:Addr)(s2:Bm.Sta)(er:Nat)(HK:Hid (Kr w ⟨A,n,c,B,bn,bc,C,cn,cc⟩ ⟨⟨l,room,fuse,off⟩,frm,seg,run,s,false⟩))(KW:Hid (∀ (e:Int) W,Q w W→Calls Tryz.prog 71 #[.int .i64 e] W fun ev w'=>ev=.returned (errV a b e)∧Q W w'))(KD:Hid (∀ W,Q w W→Calls Tryz.prog 90 #[staV B bn bc C cn cc,batV k tok D dn dc] W (RetS W (s2,er))))(hs1:s2.data.length*32≤140737488355328)(hs2:s2.toks.length*32≤140737488355328)(h0:er≠0)(y:Ks×Int)(HR:Hid (y=(⟨⟨l,room,fuse,off⟩,frm,seg,run,s,false⟩,(er:Int)))) :
    Calls Tryz.prog 48 #[kvV ⟨A,n,c,B,bn,bc,C,cn,cc⟩ ⟨⟨l,room,fuse,off⟩,frm,seg,run,s,false⟩,batV k tok D dn dc] w (RetE w a b y):=by
  obtain⟨T,u,hve⟩:∃ T u,Value.iface T u=errV a b (er:Int):=errV_is a b (by omega)
  have KV:Hid (∀ W,Q w W→Calls Tryz.prog 71 #[.int .i64 (er:Int)] W fun ev w'=>ev=.returned (.iface T u)∧Q W w'):=hid (fun W q=>by rw[hve];exact KW.out (er:Int) W q)
  have HV:=hid hve
  clear hve KW
  have hb:((er:Int) != 0)=true:=by simp;omega
  clear h0
  have Z:Hid (Kz w ⟨A,n,c,B,bn,bc,C,cn,cc⟩ ⟨⟨l,room,fuse,off⟩,frm,seg,run,s,false⟩ k tok D dn dc (((w.alloc (.cells #[.slice A n c,.int .i64 room,.int .i64 fuse,.bool off,.int .i64 frm,.int .i64 seg,.int .i64 run,.slice B bn bc,.slice C cn cc,.bool false] 32)).alloc (.cells #[.int .i64 k,.string tok,.slice D dn dc] 48)).alloc (.cells #[.slice none 0 0,.int .i64 0,.int .i64 0,.bool false,.int .i64 0,.int .i64 0,.int .i64 0,.slice none 0 0,.slice none 0 0,.bool false] 32))):=hid (Kz.new HK.out k tok D dn dc)
  have H1:=hid hs1
  have H2:=hid hs2
  clear hs1 hs2
  go_enter Tryz.func48,Tryz.ntmps48
  go_upto_region 1 with (fail)
  generalize (((w.alloc (.cells #[.slice A n c,.int .i64 room,.int .i64 fuse,.bool off,.int .i64 frm,.int .i64 seg,.int .i64 run,.slice B bn bc,.slice C cn cc,.bool false] 32)).alloc (.cells #[.int .i64 k,.string tok,.slice D dn dc] 48)).alloc (.cells #[.slice none 0 0,.int .i64 0,.int .i64 0,.bool false,.int .i64 0,.int .i64 0,.int .i64 0,.slice none 0 0,.slice none 0 0,.bool false] 32))=W at Z ⊢
  clear HK
  obtain⟨e0,e1,e2,e3,e4,e5,e6,e7,e8,e9⟩:=kget Z.out.kc.kb.box
  obtain⟨f0,f1,f2,f3,f4,f5,f6,f7,f8,f9⟩:=kfree Z.out.kc.kb.box
  obtain⟨⟨c0,c1,c2⟩,_⟩:=Z.out.bb.get3
  go_upto_region 3 with (fail)
  go_wp2_with fail
  refine(KD.out W Z.out.kc.q).mono ?_
  rintro e w1 ⟨B2,bc2,C2,cc2,rfl,o1,o2,q1⟩
  have Z1:=hid ((Z.out.step q1).state (o1.in_ H1.out) (o2.in_ H2.out))
  have L1:=(Z.out.step q1).kc.l
  clear Z o1 o2 q1 e0 e1 e2 e3 e4 e5 e6 e7 e8 e9 f0 f1 f2 f3 f4 f5 f6 f7 f8 f9 c0 c1 c2
  go_upto_region 4 with (fail)
  generalize w1.alloc (.cells #[.slice B2 s2.data.length bc2,.slice C2 s2.toks.length cc2] 30)=W1 at Z1 ⊢
  generalize w1.heap.size=sg at Z1 L1 ⊢
  have Y:=hid Z1.out.kz.kc
  clear Z1
  obtain⟨e0,e1,e2,e3,e4,e5,e6,e7,e8,e9⟩:=kget Y.out.kb.box
  obtain⟨f0,f1,f2,f3,f4,f5,f6,f7,f8,f9⟩:=kfree Y.out.kb.box
  go_upto_region 5 with (fail)
  refine wp_region_held_drew (S:=fun w'=>Bx w' w.heap.size (kL ⟨A,n,c,B,bn,bc,C,cn,cc⟩ ⟨⟨l,room,fuse,off⟩,frm,seg,run,s,false⟩)) (by kernel_rfl) ?szz5 (fun hHeld=>?rzz5)
  case szz5 =>
   exact Y.out.kb.box.drew
  refine takeH 0 ?v6 ?y6 ?_
  case y6=>intro w hSw;obtain⟨s0,s1,s2,s3,s4,s5,s6,s7,s8,s9⟩:=kget hSw;go_simp;try with_reducible rfl
  refine tadH 1 ?_
  refine oneH 2 (fun K hK=>?_)
  go_simp
  refine(KV.out _ (Y.out.q.trans (Q.refl _).drew)).mono ?_
  rintro e w4 ⟨rfl,q4⟩
  have V:=hid (Y.out.step ((Q.refl _).drew.trans q4))
  have F:Hid (RetE w a b (⟨⟨l,room,fuse,off⟩,frm,seg,run,s,false⟩,(er:Int)) (.returned (.tuple #[kvV ⟨A,n,c,B,bn,bc,C,cn,cc⟩ ⟨⟨l,room,fuse,off⟩,frm,seg,run,s,false⟩,.iface T u])) ((((((((((w4.setCell ⟨w.heap.size+1+1,0,none⟩ (.slice A n c)).setCell ⟨w.heap.size+1+1,1,none⟩ (.int .i64 room)).setCell ⟨w.heap.size+1+1,2,none⟩ (.int .i64 fuse)).setCell ⟨w.heap.size+1+1,3,none⟩ (.bool off)).setCell ⟨w.heap.size+1+1,4,none⟩ (.int .i64 frm)).setCell ⟨w.heap.size+1+1,5,none⟩ (.int .i64 seg)).setCell ⟨w.heap.size+1+1,6,none⟩ (.int .i64 run)).setCell ⟨w.heap.size+1+1,7,none⟩ (.slice B bn bc)).setCell ⟨w.heap.size+1+1,8,none⟩ (.slice C cn cc)).setCell ⟨w.heap.size+1+1,9,none⟩ (.bool false))):=hid (by rw[HV.out];exact V.out.finE V.out.kb.is a b (er:Int))
  have R:Hid (Bx ((((((((((w4.setCell ⟨w.heap.size+1+1,0,none⟩ (.slice A n c)).setCell ⟨w.heap.size+1+1,1,none⟩ (.int .i64 room)).setCell ⟨w.heap.size+1+1,2,none⟩ (.int .i64 fuse)).setCell ⟨w.heap.size+1+1,3,none⟩ (.bool off)).setCell ⟨w.heap.size+1+1,4,none⟩ (.int .i64 frm)).setCell ⟨w.heap.size+1+1,5,none⟩ (.int .i64 seg)).setCell ⟨w.heap.size+1+1,6,none⟩ (.int .i64 run)).setCell ⟨w.heap.size+1+1,7,none⟩ (.slice B bn bc)).setCell ⟨w.heap.size+1+1,8,none⟩ (.slice C cn cc)).setCell ⟨w.heap.size+1+1,9,none⟩ (.bool false)) (w.heap.size+1+1) (kL ⟨A,n,c,B,bn,bc,C,cn,cc⟩ ⟨⟨l,room,fuse,off⟩,frm,seg,run,s,false⟩)):=hid (V.out.boxR ⟨A,n,c,B,bn,bc,C,cn,cc⟩ ⟨⟨l,room,fuse,off⟩,frm,seg,run,s,false⟩)
  have U:Hid (Bx ((((((((((w4.setCell ⟨w.heap.size+1+1,0,none⟩ (.slice A n c)).setCell ⟨w.heap.size+1+1,1,none⟩ (.int .i64 room)).setCell ⟨w.heap.size+1+1,2,none⟩ (.int .i64 fuse)).setCell ⟨w.heap.size+1+1,3,none⟩ (.bool off)).setCell ⟨w.heap.size+1+1,4,none⟩ (.int .i64 frm)).setCell ⟨w.heap.size+1+1,5,none⟩ (.int .i64 seg)).setCell ⟨w.heap.size+1+1,6,none⟩ (.int .i64 run)).setCell ⟨w.heap.size+1+1,7,none⟩ (.slice B bn bc)).setCell ⟨w.heap.size+1+1,8,none⟩ (.slice C cn cc)).setCell ⟨w.heap.size+1+1,9,none⟩ (.bool false)) w.heap.size (kL ⟨A,n,c,B,bn,bc,C,cn,cc⟩ ⟨⟨l,room,fuse,off⟩,frm,seg,run,s,false⟩)):=hid (V.out.kb.box.far_stk (by have:=V.out.lt;omega) (us10 ⟨A,n,c,B,bn,bc,C,cn,cc⟩ ⟨⟨l,room,fuse,off⟩,frm,seg,run,s,false⟩))
  go_wp2_with fail
  refine hK.out _ _ (V.out.kb.box) (fun hHeld=>?_)
  clear hK K
  try simp only[Act.put,sA,sB,sC]
  refine oneH 3 (fun K hK=>?_)
  obtain⟨g0,g1,g2,g3,g4,g5,g6,g7,g8,g9⟩:=kfree V.out.res
  obtain⟨i0,i1,i2,i3,i4,i5,i6,i7,i8,i9⟩:=kget V.out.res
  go_simp
  refine hK.out _ _ (U.out) (fun hHeld=>?_)
  clear hK K
  try simp only[Act.put,sA,sB,sC]
  refine tadH 4 ?_
  refine doneH ?_
  clear V Y q4 U
  go_wp2
  (try rw[Exit.noGoto_ret])
  obtain⟨r0,r1,r2,r3,r4,r5,r6,r7,r8,r9⟩:=kget R.out
  refine bodyPost_ret (v:=.tuple #[kvV ⟨A,n,c,B,bn,bc,C,cn,cc⟩ ⟨⟨l,room,fuse,off⟩,frm,seg,run,s,false⟩,.iface T u]) (by simp[results,Tryz.results48,go_sem,r0,r1,r2,r3,r4,r5,r6,r7,r8,r9]) rfl ?_
  rw[HR.out]
  exact F.out
theorem commit_put {A:Option Addr}{n c:Nat}{B:Option Addr}{bn bc:Nat}{C:Option Addr}{cn cc:Nat}{D:Option Addr}{dn dc:Nat}{l:List Fil}{room fuse:Int}{off:Bool}{frm seg run:Int}{s:Bm.Sta}(k:Int)(tok:ByteArray)(ws:List Wr)(w:World)(a b:Addr)(s2:Bm.Sta)(rc:ByteArray)(be:Int)(l1:List Fil)(room1 fuse1:Int)(off1:Bool)(seg1 er1:Int)(HT:Hid (Kt w a b))(HK:Hid (Kr w ⟨A,n,c,B,bn,bc,C,cn,cc⟩ ⟨⟨l,room,fuse,off⟩,frm,seg,run,s,false⟩))(KW:Hid (∀ (e:Int) W,Q w W→Calls Tryz.prog 71 #[.int .i64 e] W fun ev w'=>ev=.returned (errV a b e)∧Q W w'))(KD:Hid (∀ W,Q w W→Calls Tryz.prog 90 #[staV B bn bc C cn cc,batV k tok D dn dc] W (RetS W (s2,0))))(hs1:s2.data.length*32≤140737488355328)(hs2:s2.toks.length*32≤140737488355328)(KB:Hid (∀ W,Q w W→Calls Tryz.prog 91 #[batV k tok D dn dc] W fun e w'=>e=.returned (.tuple #[.string rc,.int .i64 be])∧Q W w'))(KP:Hid (∀ W,Tab W→Dsk W A n c l→Calls Tryz.prog 92 #[dkv A n c room fuse off,.int .i64 seg,.string rc] W fun e w'=>RetW W ⟨l1,room1,fuse1,off1⟩ [.int .i64 seg1,.int .i64 er1] e w'))(h0:er1≠0)(y:Ks×Int)(HR:Hid (y=(⟨⟨l1,room1,fuse1,off1⟩,frm,seg1,run,s,false⟩,er1))) :
    Calls Tryz.prog 48 #[kvV ⟨A,n,c,B,bn,bc,C,cn,cc⟩ ⟨⟨l,room,fuse,off⟩,frm,seg,run,s,false⟩,batV k tok D dn dc] w (RetE w a b y):=by
  obtain⟨T,u,hve⟩:∃ T u,Value.iface T u=errV a b er1:=errV_is a b h0
  have KV:Hid (∀ W,Q w W→Calls Tryz.prog 71 #[.int .i64 er1] W fun ev w'=>ev=.returned (.iface T u)∧Q W w'):=hid (fun W q=>by rw[hve];exact KW.out er1 W q)
  have HV:=hid hve
  clear hve KW
  have hb:(er1 == 0)=false:=by simpa using h0
  clear h0
  have Z:Hid (Kz w ⟨A,n,c,B,bn,bc,C,cn,cc⟩ ⟨⟨l,room,fuse,off⟩,frm,seg,run,s,false⟩ k tok D dn dc (((w.alloc (.cells #[.slice A n c,.int .i64 room,.int .i64 fuse,.bool off,.int .i64 frm,.int .i64 seg,.int .i64 run,.slice B bn bc,.slice C cn cc,.bool false] 32)).alloc (.cells #[.int .i64 k,.string tok,.slice D dn dc] 48)).alloc (.cells #[.slice none 0 0,.int .i64 0,.int .i64 0,.bool false,.int .i64 0,.int .i64 0,.int .i64 0,.slice none 0 0,.slice none 0 0,.bool false] 32))):=hid (Kz.new HK.out k tok D dn dc)
  have H1:=hid hs1
  have H2:=hid hs2
  clear hs1 hs2
  go_enter Tryz.func48,Tryz.ntmps48
  go_upto_region 1 with (fail)
  generalize (((w.alloc (.cells #[.slice A n c,.int .i64 room,.int .i64 fuse,.bool off,.int .i64 frm,.int .i64 seg,.int .i64 run,.slice B bn bc,.slice C cn cc,.bool false] 32)).alloc (.cells #[.int .i64 k,.string tok,.slice D dn dc] 48)).alloc (.cells #[.slice none 0 0,.int .i64 0,.int .i64 0,.bool false,.int .i64 0,.int .i64 0,.int .i64 0,.slice none 0 0,.slice none 0 0,.bool false] 32))=W at Z ⊢
  clear HK
  obtain⟨e0,e1,e2,e3,e4,e5,e6,e7,e8,e9⟩:=kget Z.out.kc.kb.box
  obtain⟨f0,f1,f2,f3,f4,f5,f6,f7,f8,f9⟩:=kfree Z.out.kc.kb.box
  obtain⟨⟨c0,c1,c2⟩,_⟩:=Z.out.bb.get3
  go_upto_region 3 with (fail)
  go_wp2_with fail
  refine(KD.out W Z.out.kc.q).mono ?_
  rintro e w1 ⟨B2,bc2,C2,cc2,rfl,o1,o2,q1⟩
  have Z1:=hid ((Z.out.step q1).state (o1.in_ H1.out) (o2.in_ H2.out))
  have L1:=(Z.out.step q1).kc.l
  clear Z o1 o2 q1 e0 e1 e2 e3 e4 e5 e6 e7 e8 e9 f0 f1 f2 f3 f4 f5 f6 f7 f8 f9 c0 c1 c2
  go_upto_region 4 with (fail)
  generalize w1.alloc (.cells #[.slice B2 s2.data.length bc2,.slice C2 s2.toks.length cc2] 30)=W1 at Z1 ⊢
  generalize w1.heap.size=sg at Z1 L1 ⊢
  obtain⟨e0,e1,e2,e3,e4,e5,e6,e7,e8,e9⟩:=kget Z1.out.kz.kc.kb.box
  obtain⟨f0,f1,f2,f3,f4,f5,f6,f7,f8,f9⟩:=kfree Z1.out.kz.kc.kb.box
  obtain⟨⟨c0,c1,c2⟩,_⟩:=Z1.out.kz.bb.get3
  go_upto_region 6 with (fail)
  go_wp2_with fail
  refine(KB.out W1 Z1.out.kz.kc.q).mono ?_
  rintro e w2 ⟨rfl,q2⟩
  have Z2:=hid (Z1.out.step q2)
  clear Z1 q2 e0 e1 e2 e3 e4 e5 e6 e7 e8 e9 f0 f1 f2 f3 f4 f5 f6 f7 f8 f9 c0 c1 c2
  obtain⟨e0,e1,e2,e3,e4,e5,e6,e7,e8,e9⟩:=kget Z2.out.kz.kc.kb.box
  obtain⟨f0,f1,f2,f3,f4,f5,f6,f7,f8,f9⟩:=kfree Z2.out.kz.kc.kb.box
  go_upto_region 7 with (fail)
  go_wp2_with fail
  refine(KP.out w2 (HT.out.q Z2.out.kz.kc.q).tab Z2.out.kz.kc.kb.is.dsk).mono ?_
  rintro e w3 ⟨A3,n3,c3,rfl,hd3,hf3,q3⟩
  have Z3:=hid (((Z2.out.step q3).disk (d2:=⟨l1,room1,fuse1,off1⟩) hd3).segm seg1)
  clear e0 e1 e2 e3 e4 e5 e6 e7 e8 e9 f0 f1 f2 f3 f4 f5 f6 f7 f8 f9
  obtain⟨e0,e1,e2,e3,e4,e5,e6,e7,e8,e9⟩:=kget (Z2.out.step q3).kz.kc.kb.box
  obtain⟨f0,f1,f2,f3,f4,f5,f6,f7,f8,f9⟩:=kfree (Z2.out.step q3).kz.kc.kb.box
  clear Z2 hd3 hf3 q3
  go_upto_region 8 with (fail)
  generalize ((((w3.setCell ⟨w.heap.size,0,none⟩ (.slice A3 n3 c3)).setCell ⟨w.heap.size,1,none⟩ (.int .i64 room1)).setCell ⟨w.heap.size,2,none⟩ (.int .i64 fuse1)).setCell ⟨w.heap.size,3,none⟩ (.bool off1)).setCell ⟨w.heap.size,5,none⟩ (.int .i64 seg1)=W3 at Z3 ⊢
  clear e0 e1 e2 e3 e4 e5 e6 e7 e8 e9 f0 f1 f2 f3 f4 f5 f6 f7 f8 f9
  obtain⟨e0,e1,e2,e3,e4,e5,e6,e7,e8,e9⟩:=kget Z3.out.kz.kc.kb.box
  obtain⟨f0,f1,f2,f3,f4,f5,f6,f7,f8,f9⟩:=kfree Z3.out.kz.kc.kb.box
  have Y:=hid Z3.out.kz.kc
  clear Z3
  go_upto_region 12 with (fail)
  refine wp_region_held_drew (S:=fun w'=>Bx w' w.heap.size (kL ⟨A3,n3,c3,B,bn,bc,C,cn,cc⟩ ⟨⟨l1,room1,fuse1,off1⟩,frm,seg1,run,s,false⟩)) (by kernel_rfl) ?szz11 (fun hHeld=>?rzz11)
  case szz11 =>
   exact Y.out.kb.box.drew
  refine takeH 0 ?v12 ?y12 ?_
  case y12=>intro w hSw;obtain⟨s0,s1,s2,s3,s4,s5,s6,s7,s8,s9⟩:=kget hSw;go_simp;try with_reducible rfl
  refine tadH 1 ?_
  refine oneH 2 (fun K hK=>?_)
  go_simp
  refine(KV.out _ (Y.out.q.trans (Q.refl _).drew)).mono ?_
  rintro e w4 ⟨rfl,q4⟩
  have V:=hid (Y.out.step ((Q.refl _).drew.trans q4))
  have F:Hid (RetE w a b (⟨⟨l1,room1,fuse1,off1⟩,frm,seg1,run,s,false⟩,er1) (.returned (.tuple #[kvV ⟨A3,n3,c3,B,bn,bc,C,cn,cc⟩ ⟨⟨l1,room1,fuse1,off1⟩,frm,seg1,run,s,false⟩,.iface T u])) ((((((((((w4.setCell ⟨w.heap.size+1+1,0,none⟩ (.slice A3 n3 c3)).setCell ⟨w.heap.size+1+1,1,none⟩ (.int .i64 room1)).setCell ⟨w.heap.size+1+1,2,none⟩ (.int .i64 fuse1)).setCell ⟨w.heap.size+1+1,3,none⟩ (.bool off1)).setCell ⟨w.heap.size+1+1,4,none⟩ (.int .i64 frm)).setCell ⟨w.heap.size+1+1,5,none⟩ (.int .i64 seg1)).setCell ⟨w.heap.size+1+1,6,none⟩ (.int .i64 run)).setCell ⟨w.heap.size+1+1,7,none⟩ (.slice B bn bc)).setCell ⟨w.heap.size+1+1,8,none⟩ (.slice C cn cc)).setCell ⟨w.heap.size+1+1,9,none⟩ (.bool false))):=hid (by rw[HV.out];exact V.out.finE V.out.kb.is a b er1)
  have R:Hid (Bx ((((((((((w4.setCell ⟨w.heap.size+1+1,0,none⟩ (.slice A3 n3 c3)).setCell ⟨w.heap.size+1+1,1,none⟩ (.int .i64 room1)).setCell ⟨w.heap.size+1+1,2,none⟩ (.int .i64 fuse1)).setCell ⟨w.heap.size+1+1,3,none⟩ (.bool off1)).setCell ⟨w.heap.size+1+1,4,none⟩ (.int .i64 frm)).setCell ⟨w.heap.size+1+1,5,none⟩ (.int .i64 seg1)).setCell ⟨w.heap.size+1+1,6,none⟩ (.int .i64 run)).setCell ⟨w.heap.size+1+1,7,none⟩ (.slice B bn bc)).setCell ⟨w.heap.size+1+1,8,none⟩ (.slice C cn cc)).setCell ⟨w.heap.size+1+1,9,none⟩ (.bool false)) (w.heap.size+1+1) (kL ⟨A3,n3,c3,B,bn,bc,C,cn,cc⟩ ⟨⟨l1,room1,fuse1,off1⟩,frm,seg1,run,s,false⟩)):=hid (V.out.boxR ⟨A3,n3,c3,B,bn,bc,C,cn,cc⟩ ⟨⟨l1,room1,fuse1,off1⟩,frm,seg1,run,s,false⟩)
  have U:Hid (Bx ((((((((((w4.setCell ⟨w.heap.size+1+1,0,none⟩ (.slice A3 n3 c3)).setCell ⟨w.heap.size+1+1,1,none⟩ (.int .i64 room1)).setCell ⟨w.heap.size+1+1,2,none⟩ (.int .i64 fuse1)).setCell ⟨w.heap.size+1+1,3,none⟩ (.bool off1)).setCell ⟨w.heap.size+1+1,4,none⟩ (.int .i64 frm)).setCell ⟨w.heap.size+1+1,5,none⟩ (.int .i64 seg1)).setCell ⟨w.heap.size+1+1,6,none⟩ (.int .i64 run)).setCell ⟨w.heap.size+1+1,7,none⟩ (.slice B bn bc)).setCell ⟨w.heap.size+1+1,8,none⟩ (.slice C cn cc)).setCell ⟨w.heap.size+1+1,9,none⟩ (.bool false)) w.heap.size (kL ⟨A3,n3,c3,B,bn,bc,C,cn,cc⟩ ⟨⟨l1,room1,fuse1,off1⟩,frm,seg1,run,s,false⟩)):=hid (V.out.kb.box.far_stk (by have:=V.out.lt;omega) (us10 ⟨A3,n3,c3,B,bn,bc,C,cn,cc⟩ ⟨⟨l1,room1,fuse1,off1⟩,frm,seg1,run,s,false⟩))
  go_wp2_with fail
  refine hK.out _ _ (V.out.kb.box) (fun hHeld=>?_)
  clear hK K
  try simp only[Act.put,sA,sB,sC]
  refine oneH 3 (fun K hK=>?_)
  obtain⟨g0,g1,g2,g3,g4,g5,g6,g7,g8,g9⟩:=kfree V.out.res
  obtain⟨i0,i1,i2,i3,i4,i5,i6,i7,i8,i9⟩:=kget V.out.res
  go_simp
  refine hK.out _ _ (U.out) (fun hHeld=>?_)
  clear hK K
  try simp only[Act.put,sA,sB,sC]
  refine tadH 4 ?_
  refine doneH ?_
  clear V Y q4 U
  go_wp2
  (try rw[Exit.noGoto_ret])
  obtain⟨r0,r1,r2,r3,r4,r5,r6,r7,r8,r9⟩:=kget R.out
  refine bodyPost_ret (v:=.tuple #[kvV ⟨A3,n3,c3,B,bn,bc,C,cn,cc⟩ ⟨⟨l1,room1,fuse1,off1⟩,frm,seg1,run,s,false⟩,.iface T u]) (by simp[results,Tryz.results48,go_sem,r0,r1,r2,r3,r4,r5,r6,r7,r8,r9]) rfl ?_
  rw[HR.out]
  exact F.out
theorem commit_syn {A:Option Addr}{n c:Nat}{B:Option Addr}{bn bc:Nat}{C:Option Addr}{cn cc:Nat}{D:Option Addr}{dn dc:Nat}{l:List Fil}{room fuse:Int}{off:Bool}{frm seg run:Int}{s:Bm.Sta}(k:Int)(tok:ByteArray)(ws:List Wr)(w:World)(a b:Addr)(s2:Bm.Sta)(rc:ByteArray)(be:Int)(l1:List Fil)(room1 fuse1:Int)(off1:Bool)(seg1:Int)(l2:List Fil)(room2 fuse2:Int)(off2:Bool)(er2:Int)(HT:Hid (Kt w a b))(HK:Hid (Kr w ⟨A,n,c,B,bn,bc,C,cn,cc⟩ ⟨⟨l,room,fuse,off⟩,frm,seg,run,s,false⟩))(KW:Hid (∀ (e:Int) W,Q w W→Calls Tryz.prog 71 #[.int .i64 e] W fun ev w'=>ev=.returned (errV a b e)∧Q W w'))(KD:Hid (∀ W,Q w W→Calls Tryz.prog 90 #[staV B bn bc C cn cc,batV k tok D dn dc] W (RetS W (s2,0))))(hs1:s2.data.length*32≤140737488355328)(hs2:s2.toks.length*32≤140737488355328)(KB:Hid (∀ W,Q w W→Calls Tryz.prog 91 #[batV k tok D dn dc] W fun e w'=>e=.returned (.tuple #[.string rc,.int .i64 be])∧Q W w'))(KP:Hid (∀ W,Tab W→Dsk W A n c l→Calls Tryz.prog 92 #[dkv A n c room fuse off,.int .i64 seg,.string rc] W fun e w'=>RetW W ⟨l1,room1,fuse1,off1⟩ [.int .i64 seg1,.int .i64 0] e w'))(KS:Hid (∀ W A n c,Tab W→Dsk W A n c l1→Calls Tryz.prog 93 #[dkv A n c room1 fuse1 off1,.int .i64 seg1] W fun e w'=>RetW W ⟨l2,room2,fuse2,off2⟩ [.int .i64 er2] e w'))(h0:er2≠0)(y:Ks×Int)(HR:Hid (y=(⟨⟨l2,room2,fuse2,off2⟩,frm,seg1,run,s,false⟩,er2))) :
    Calls Tryz.prog 48 #[kvV ⟨A,n,c,B,bn,bc,C,cn,cc⟩ ⟨⟨l,room,fuse,off⟩,frm,seg,run,s,false⟩,batV k tok D dn dc] w (RetE w a b y):=by
  obtain⟨T,u,hve⟩:∃ T u,Value.iface T u=errV a b er2:=errV_is a b h0
  have KV:Hid (∀ W,Q w W→Calls Tryz.prog 71 #[.int .i64 er2] W fun ev w'=>ev=.returned (.iface T u)∧Q W w'):=hid (fun W q=>by rw[hve];exact KW.out er2 W q)
  have HV:=hid hve
  clear hve KW
  have hb:(er2 == 0)=false:=by simpa using h0
  clear h0
  have Z:Hid (Kz w ⟨A,n,c,B,bn,bc,C,cn,cc⟩ ⟨⟨l,room,fuse,off⟩,frm,seg,run,s,false⟩ k tok D dn dc (((w.alloc (.cells #[.slice A n c,.int .i64 room,.int .i64 fuse,.bool off,.int .i64 frm,.int .i64 seg,.int .i64 run,.slice B bn bc,.slice C cn cc,.bool false] 32)).alloc (.cells #[.int .i64 k,.string tok,.slice D dn dc] 48)).alloc (.cells #[.slice none 0 0,.int .i64 0,.int .i64 0,.bool false,.int .i64 0,.int .i64 0,.int .i64 0,.slice none 0 0,.slice none 0 0,.bool false] 32))):=hid (Kz.new HK.out k tok D dn dc)
  have H1:=hid hs1
  have H2:=hid hs2
  clear hs1 hs2
  go_enter Tryz.func48,Tryz.ntmps48
  go_upto_region 1 with (fail)
  generalize (((w.alloc (.cells #[.slice A n c,.int .i64 room,.int .i64 fuse,.bool off,.int .i64 frm,.int .i64 seg,.int .i64 run,.slice B bn bc,.slice C cn cc,.bool false] 32)).alloc (.cells #[.int .i64 k,.string tok,.slice D dn dc] 48)).alloc (.cells #[.slice none 0 0,.int .i64 0,.int .i64 0,.bool false,.int .i64 0,.int .i64 0,.int .i64 0,.slice none 0 0,.slice none 0 0,.bool false] 32))=W at Z ⊢
  clear HK
  obtain⟨e0,e1,e2,e3,e4,e5,e6,e7,e8,e9⟩:=kget Z.out.kc.kb.box
  obtain⟨f0,f1,f2,f3,f4,f5,f6,f7,f8,f9⟩:=kfree Z.out.kc.kb.box
  obtain⟨⟨c0,c1,c2⟩,_⟩:=Z.out.bb.get3
  go_upto_region 3 with (fail)
  go_wp2_with fail
  refine(KD.out W Z.out.kc.q).mono ?_
  rintro e w1 ⟨B2,bc2,C2,cc2,rfl,o1,o2,q1⟩
  have Z1:=hid ((Z.out.step q1).state (o1.in_ H1.out) (o2.in_ H2.out))
  have L1:=(Z.out.step q1).kc.l
  clear Z o1 o2 q1 e0 e1 e2 e3 e4 e5 e6 e7 e8 e9 f0 f1 f2 f3 f4 f5 f6 f7 f8 f9 c0 c1 c2
  go_upto_region 4 with (fail)
  generalize w1.alloc (.cells #[.slice B2 s2.data.length bc2,.slice C2 s2.toks.length cc2] 30)=W1 at Z1 ⊢
  generalize w1.heap.size=sg at Z1 L1 ⊢
  obtain⟨e0,e1,e2,e3,e4,e5,e6,e7,e8,e9⟩:=kget Z1.out.kz.kc.kb.box
  obtain⟨f0,f1,f2,f3,f4,f5,f6,f7,f8,f9⟩:=kfree Z1.out.kz.kc.kb.box
  obtain⟨⟨c0,c1,c2⟩,_⟩:=Z1.out.kz.bb.get3
  go_upto_region 6 with (fail)
  go_wp2_with fail
  refine(KB.out W1 Z1.out.kz.kc.q).mono ?_
  rintro e w2 ⟨rfl,q2⟩
  have Z2:=hid (Z1.out.step q2)
  clear Z1 q2 e0 e1 e2 e3 e4 e5 e6 e7 e8 e9 f0 f1 f2 f3 f4 f5 f6 f7 f8 f9 c0 c1 c2
  obtain⟨e0,e1,e2,e3,e4,e5,e6,e7,e8,e9⟩:=kget Z2.out.kz.kc.kb.box
  obtain⟨f0,f1,f2,f3,f4,f5,f6,f7,f8,f9⟩:=kfree Z2.out.kz.kc.kb.box
  go_upto_region 7 with (fail)
  go_wp2_with fail
  refine(KP.out w2 (HT.out.q Z2.out.kz.kc.q).tab Z2.out.kz.kc.kb.is.dsk).mono ?_
  rintro e w3 ⟨A3,n3,c3,rfl,hd3,hf3,q3⟩
  have Z3:=hid (((Z2.out.step q3).disk (d2:=⟨l1,room1,fuse1,off1⟩) hd3).segm seg1)
  clear e0 e1 e2 e3 e4 e5 e6 e7 e8 e9 f0 f1 f2 f3 f4 f5 f6 f7 f8 f9
  obtain⟨e0,e1,e2,e3,e4,e5,e6,e7,e8,e9⟩:=kget (Z2.out.step q3).kz.kc.kb.box
  obtain⟨f0,f1,f2,f3,f4,f5,f6,f7,f8,f9⟩:=kfree (Z2.out.step q3).kz.kc.kb.box
  clear Z2 hd3 hf3 q3
  go_upto_region 8 with (fail)
  generalize ((((w3.setCell ⟨w.heap.size,0,none⟩ (.slice A3 n3 c3)).setCell ⟨w.heap.size,1,none⟩ (.int .i64 room1)).setCell ⟨w.heap.size,2,none⟩ (.int .i64 fuse1)).setCell ⟨w.heap.size,3,none⟩ (.bool off1)).setCell ⟨w.heap.size,5,none⟩ (.int .i64 seg1)=W3 at Z3 ⊢
  clear e0 e1 e2 e3 e4 e5 e6 e7 e8 e9 f0 f1 f2 f3 f4 f5 f6 f7 f8 f9
  obtain⟨e0,e1,e2,e3,e4,e5,e6,e7,e8,e9⟩:=kget Z3.out.kz.kc.kb.box
  obtain⟨f0,f1,f2,f3,f4,f5,f6,f7,f8,f9⟩:=kfree Z3.out.kz.kc.kb.box
  go_upto_region 9 with (fail)
  go_wp2_with fail
  refine(KS.out W3 A3 n3 c3 (HT.out.q Z3.out.kz.kc.q).tab Z3.out.kz.kc.kb.is.dsk).mono ?_
  rintro e w5 ⟨A5,n5,c5,rfl,hd5,hf5,q5⟩
  have Z5:=hid ((Z3.out.step q5).disk (d2:=⟨l2,room2,fuse2,off2⟩) hd5)
  clear e0 e1 e2 e3 e4 e5 e6 e7 e8 e9 f0 f1 f2 f3 f4 f5 f6 f7 f8 f9
  obtain⟨e0,e1,e2,e3,e4,e5,e6,e7,e8,e9⟩:=kget (Z3.out.step q5).kz.kc.kb.box
  obtain⟨f0,f1,f2,f3,f4,f5,f6,f7,f8,f9⟩:=kfree (Z3.out.step q5).kz.kc.kb.box
  clear Z3 hd5 hf5 q5
  go_upto_region 10 with (fail)
  generalize ((((w5.setCell ⟨w.heap.size,0,none⟩ (.slice A5 n5 c5)).setCell ⟨w.heap.size,1,none⟩ (.int .i64 room2)).setCell ⟨w.heap.size,2,none⟩ (.int .i64 fuse2)).setCell ⟨w.heap.size,3,none⟩ (.bool off2))=W5 at Z5 ⊢
  clear e0 e1 e2 e3 e4 e5 e6 e7 e8 e9 f0 f1 f2 f3 f4 f5 f6 f7 f8 f9
  obtain⟨e0,e1,e2,e3,e4,e5,e6,e7,e8,e9⟩:=kget Z5.out.kz.kc.kb.box
  obtain⟨f0,f1,f2,f3,f4,f5,f6,f7,f8,f9⟩:=kfree Z5.out.kz.kc.kb.box
  have Y:=hid Z5.out.kz.kc
  clear Z5
  go_upto_region 12 with (fail)
  refine wp_region_held_drew (S:=fun w'=>Bx w' w.heap.size (kL ⟨A5,n5,c5,B,bn,bc,C,cn,cc⟩ ⟨⟨l2,room2,fuse2,off2⟩,frm,seg1,run,s,false⟩)) (by kernel_rfl) ?szz17 (fun hHeld=>?rzz17)
  case szz17 =>
   exact Y.out.kb.box.drew
  refine takeH 0 ?v18 ?y18 ?_
  case y18=>intro w hSw;obtain⟨s0,s1,s2,s3,s4,s5,s6,s7,s8,s9⟩:=kget hSw;go_simp;try with_reducible rfl
  refine tadH 1 ?_
  refine oneH 2 (fun K hK=>?_)
  go_simp
  refine(KV.out _ (Y.out.q.trans (Q.refl _).drew)).mono ?_
  rintro e w4 ⟨rfl,q4⟩
  have V:=hid (Y.out.step ((Q.refl _).drew.trans q4))
  have F:Hid (RetE w a b (⟨⟨l2,room2,fuse2,off2⟩,frm,seg1,run,s,false⟩,er2) (.returned (.tuple #[kvV ⟨A5,n5,c5,B,bn,bc,C,cn,cc⟩ ⟨⟨l2,room2,fuse2,off2⟩,frm,seg1,run,s,false⟩,.iface T u])) ((((((((((w4.setCell ⟨w.heap.size+1+1,0,none⟩ (.slice A5 n5 c5)).setCell ⟨w.heap.size+1+1,1,none⟩ (.int .i64 room2)).setCell ⟨w.heap.size+1+1,2,none⟩ (.int .i64 fuse2)).setCell ⟨w.heap.size+1+1,3,none⟩ (.bool off2)).setCell ⟨w.heap.size+1+1,4,none⟩ (.int .i64 frm)).setCell ⟨w.heap.size+1+1,5,none⟩ (.int .i64 seg1)).setCell ⟨w.heap.size+1+1,6,none⟩ (.int .i64 run)).setCell ⟨w.heap.size+1+1,7,none⟩ (.slice B bn bc)).setCell ⟨w.heap.size+1+1,8,none⟩ (.slice C cn cc)).setCell ⟨w.heap.size+1+1,9,none⟩ (.bool false))):=hid (by rw[HV.out];exact V.out.finE V.out.kb.is a b er2)
  have R:Hid (Bx ((((((((((w4.setCell ⟨w.heap.size+1+1,0,none⟩ (.slice A5 n5 c5)).setCell ⟨w.heap.size+1+1,1,none⟩ (.int .i64 room2)).setCell ⟨w.heap.size+1+1,2,none⟩ (.int .i64 fuse2)).setCell ⟨w.heap.size+1+1,3,none⟩ (.bool off2)).setCell ⟨w.heap.size+1+1,4,none⟩ (.int .i64 frm)).setCell ⟨w.heap.size+1+1,5,none⟩ (.int .i64 seg1)).setCell ⟨w.heap.size+1+1,6,none⟩ (.int .i64 run)).setCell ⟨w.heap.size+1+1,7,none⟩ (.slice B bn bc)).setCell ⟨w.heap.size+1+1,8,none⟩ (.slice C cn cc)).setCell ⟨w.heap.size+1+1,9,none⟩ (.bool false)) (w.heap.size+1+1) (kL ⟨A5,n5,c5,B,bn,bc,C,cn,cc⟩ ⟨⟨l2,room2,fuse2,off2⟩,frm,seg1,run,s,false⟩)):=hid (V.out.boxR ⟨A5,n5,c5,B,bn,bc,C,cn,cc⟩ ⟨⟨l2,room2,fuse2,off2⟩,frm,seg1,run,s,false⟩)
  have U:Hid (Bx ((((((((((w4.setCell ⟨w.heap.size+1+1,0,none⟩ (.slice A5 n5 c5)).setCell ⟨w.heap.size+1+1,1,none⟩ (.int .i64 room2)).setCell ⟨w.heap.size+1+1,2,none⟩ (.int .i64 fuse2)).setCell ⟨w.heap.size+1+1,3,none⟩ (.bool off2)).setCell ⟨w.heap.size+1+1,4,none⟩ (.int .i64 frm)).setCell ⟨w.heap.size+1+1,5,none⟩ (.int .i64 seg1)).setCell ⟨w.heap.size+1+1,6,none⟩ (.int .i64 run)).setCell ⟨w.heap.size+1+1,7,none⟩ (.slice B bn bc)).setCell ⟨w.heap.size+1+1,8,none⟩ (.slice C cn cc)).setCell ⟨w.heap.size+1+1,9,none⟩ (.bool false)) w.heap.size (kL ⟨A5,n5,c5,B,bn,bc,C,cn,cc⟩ ⟨⟨l2,room2,fuse2,off2⟩,frm,seg1,run,s,false⟩)):=hid (V.out.kb.box.far_stk (by have:=V.out.lt;omega) (us10 ⟨A5,n5,c5,B,bn,bc,C,cn,cc⟩ ⟨⟨l2,room2,fuse2,off2⟩,frm,seg1,run,s,false⟩))
  go_wp2_with fail
  refine hK.out _ _ (V.out.kb.box) (fun hHeld=>?_)
  clear hK K
  try simp only[Act.put,sA,sB,sC]
  refine oneH 3 (fun K hK=>?_)
  obtain⟨g0,g1,g2,g3,g4,g5,g6,g7,g8,g9⟩:=kfree V.out.res
  obtain⟨i0,i1,i2,i3,i4,i5,i6,i7,i8,i9⟩:=kget V.out.res
  go_simp
  refine hK.out _ _ (U.out) (fun hHeld=>?_)
  clear hK K
  try simp only[Act.put,sA,sB,sC]
  refine tadH 4 ?_
  refine doneH ?_
  clear V Y q4 U
  go_wp2
  (try rw[Exit.noGoto_ret])
  obtain⟨r0,r1,r2,r3,r4,r5,r6,r7,r8,r9⟩:=kget R.out
  refine bodyPost_ret (v:=.tuple #[kvV ⟨A5,n5,c5,B,bn,bc,C,cn,cc⟩ ⟨⟨l2,room2,fuse2,off2⟩,frm,seg1,run,s,false⟩,.iface T u]) (by simp[results,Tryz.results48,go_sem,r0,r1,r2,r3,r4,r5,r6,r7,r8,r9]) rfl ?_
  rw[HR.out]
  exact F.out
theorem commit_ok {A:Option Addr}{n c:Nat}{B:Option Addr}{bn bc:Nat}{C:Option Addr}{cn cc:Nat}{D:Option Addr}{dn dc:Nat}{l:List Fil}{room fuse:Int}{off:Bool}{frm seg run:Int}{s:Bm.Sta}(k:Int)(tok:ByteArray)(ws:List Wr)(w:World)(a b:Addr)(s2:Bm.Sta)(rc:ByteArray)(be:Int)(l1:List Fil)(room1 fuse1:Int)(off1:Bool)(seg1:Int)(l2:List Fil)(room2 fuse2:Int)(off2:Bool)(er2:Int)(HT:Hid (Kt w a b))(HK:Hid (Kr w ⟨A,n,c,B,bn,bc,C,cn,cc⟩ ⟨⟨l,room,fuse,off⟩,frm,seg,run,s,false⟩))(KW:Hid (∀ (e:Int) W,Q w W→Calls Tryz.prog 71 #[.int .i64 e] W fun ev w'=>ev=.returned (errV a b e)∧Q W w'))(KD:Hid (∀ W,Q w W→Calls Tryz.prog 90 #[staV B bn bc C cn cc,batV k tok D dn dc] W (RetS W (s2,0))))(hs1:s2.data.length*32≤140737488355328)(hs2:s2.toks.length*32≤140737488355328)(KB:Hid (∀ W,Q w W→Calls Tryz.prog 91 #[batV k tok D dn dc] W fun e w'=>e=.returned (.tuple #[.string rc,.int .i64 be])∧Q W w'))(KP:Hid (∀ W,Tab W→Dsk W A n c l→Calls Tryz.prog 92 #[dkv A n c room fuse off,.int .i64 seg,.string rc] W fun e w'=>RetW W ⟨l1,room1,fuse1,off1⟩ [.int .i64 seg1,.int .i64 0] e w'))(KS:Hid (∀ W A n c,Tab W→Dsk W A n c l1→Calls Tryz.prog 93 #[dkv A n c room1 fuse1 off1,.int .i64 seg1] W fun e w'=>RetW W ⟨l2,room2,fuse2,off2⟩ [.int .i64 0] e w'))(y:Ks×Int)(HR:Hid (y=(⟨⟨l2,room2,fuse2,off2⟩,frm,seg1,run,s2,false⟩,0))) :
    Calls Tryz.prog 48 #[kvV ⟨A,n,c,B,bn,bc,C,cn,cc⟩ ⟨⟨l,room,fuse,off⟩,frm,seg,run,s,false⟩,batV k tok D dn dc] w (RetE w a b y):=by
  have hve:Value.nilIface=errV a b 0:=(errV_nil a b).symm
  have KV:Hid (∀ W,Q w W→Calls Tryz.prog 71 #[.int .i64 0] W fun ev w'=>ev=.returned .nilIface∧Q W w'):=hid (fun W q=>by rw[hve];exact KW.out 0 W q)
  have HV:=hid hve
  clear hve KW
  have Z:Hid (Kz w ⟨A,n,c,B,bn,bc,C,cn,cc⟩ ⟨⟨l,room,fuse,off⟩,frm,seg,run,s,false⟩ k tok D dn dc (((w.alloc (.cells #[.slice A n c,.int .i64 room,.int .i64 fuse,.bool off,.int .i64 frm,.int .i64 seg,.int .i64 run,.slice B bn bc,.slice C cn cc,.bool false] 32)).alloc (.cells #[.int .i64 k,.string tok,.slice D dn dc] 48)).alloc (.cells #[.slice none 0 0,.int .i64 0,.int .i64 0,.bool false,.int .i64 0,.int .i64 0,.int .i64 0,.slice none 0 0,.slice none 0 0,.bool false] 32))):=hid (Kz.new HK.out k tok D dn dc)
  have H1:=hid hs1
  have H2:=hid hs2
  clear hs1 hs2
  go_enter Tryz.func48,Tryz.ntmps48
  go_upto_region 1 with (fail)
  generalize (((w.alloc (.cells #[.slice A n c,.int .i64 room,.int .i64 fuse,.bool off,.int .i64 frm,.int .i64 seg,.int .i64 run,.slice B bn bc,.slice C cn cc,.bool false] 32)).alloc (.cells #[.int .i64 k,.string tok,.slice D dn dc] 48)).alloc (.cells #[.slice none 0 0,.int .i64 0,.int .i64 0,.bool false,.int .i64 0,.int .i64 0,.int .i64 0,.slice none 0 0,.slice none 0 0,.bool false] 32))=W at Z ⊢
  clear HK
  obtain⟨e0,e1,e2,e3,e4,e5,e6,e7,e8,e9⟩:=kget Z.out.kc.kb.box
  obtain⟨f0,f1,f2,f3,f4,f5,f6,f7,f8,f9⟩:=kfree Z.out.kc.kb.box
  obtain⟨⟨c0,c1,c2⟩,_⟩:=Z.out.bb.get3
  go_upto_region 3 with (fail)
  go_wp2_with fail
  refine(KD.out W Z.out.kc.q).mono ?_
  rintro e w1 ⟨B2,bc2,C2,cc2,rfl,o1,o2,q1⟩
  have Z1:=hid ((Z.out.step q1).state (o1.in_ H1.out) (o2.in_ H2.out))
  have L1:=(Z.out.step q1).kc.l
  clear Z o1 o2 q1 e0 e1 e2 e3 e4 e5 e6 e7 e8 e9 f0 f1 f2 f3 f4 f5 f6 f7 f8 f9 c0 c1 c2
  go_upto_region 4 with (fail)
  generalize w1.alloc (.cells #[.slice B2 s2.data.length bc2,.slice C2 s2.toks.length cc2] 30)=W1 at Z1 ⊢
  generalize w1.heap.size=sg at Z1 L1 ⊢
  obtain⟨e0,e1,e2,e3,e4,e5,e6,e7,e8,e9⟩:=kget Z1.out.kz.kc.kb.box
  obtain⟨f0,f1,f2,f3,f4,f5,f6,f7,f8,f9⟩:=kfree Z1.out.kz.kc.kb.box
  obtain⟨⟨c0,c1,c2⟩,_⟩:=Z1.out.kz.bb.get3
  go_upto_region 6 with (fail)
  go_wp2_with fail
  refine(KB.out W1 Z1.out.kz.kc.q).mono ?_
  rintro e w2 ⟨rfl,q2⟩
  have Z2:=hid (Z1.out.step q2)
  clear Z1 q2 e0 e1 e2 e3 e4 e5 e6 e7 e8 e9 f0 f1 f2 f3 f4 f5 f6 f7 f8 f9 c0 c1 c2
  obtain⟨e0,e1,e2,e3,e4,e5,e6,e7,e8,e9⟩:=kget Z2.out.kz.kc.kb.box
  obtain⟨f0,f1,f2,f3,f4,f5,f6,f7,f8,f9⟩:=kfree Z2.out.kz.kc.kb.box
  go_upto_region 7 with (fail)
  go_wp2_with fail
  refine(KP.out w2 (HT.out.q Z2.out.kz.kc.q).tab Z2.out.kz.kc.kb.is.dsk).mono ?_
  rintro e w3 ⟨A3,n3,c3,rfl,hd3,hf3,q3⟩
  have Z3:=hid (((Z2.out.step q3).disk (d2:=⟨l1,room1,fuse1,off1⟩) hd3).segm seg1)
  clear e0 e1 e2 e3 e4 e5 e6 e7 e8 e9 f0 f1 f2 f3 f4 f5 f6 f7 f8 f9
  obtain⟨e0,e1,e2,e3,e4,e5,e6,e7,e8,e9⟩:=kget (Z2.out.step q3).kz.kc.kb.box
  obtain⟨f0,f1,f2,f3,f4,f5,f6,f7,f8,f9⟩:=kfree (Z2.out.step q3).kz.kc.kb.box
  clear Z2 hd3 hf3 q3
  go_upto_region 8 with (fail)
  generalize ((((w3.setCell ⟨w.heap.size,0,none⟩ (.slice A3 n3 c3)).setCell ⟨w.heap.size,1,none⟩ (.int .i64 room1)).setCell ⟨w.heap.size,2,none⟩ (.int .i64 fuse1)).setCell ⟨w.heap.size,3,none⟩ (.bool off1)).setCell ⟨w.heap.size,5,none⟩ (.int .i64 seg1)=W3 at Z3 ⊢
  clear e0 e1 e2 e3 e4 e5 e6 e7 e8 e9 f0 f1 f2 f3 f4 f5 f6 f7 f8 f9
  obtain⟨e0,e1,e2,e3,e4,e5,e6,e7,e8,e9⟩:=kget Z3.out.kz.kc.kb.box
  obtain⟨f0,f1,f2,f3,f4,f5,f6,f7,f8,f9⟩:=kfree Z3.out.kz.kc.kb.box
  go_upto_region 9 with (fail)
  go_wp2_with fail
  refine(KS.out W3 A3 n3 c3 (HT.out.q Z3.out.kz.kc.q).tab Z3.out.kz.kc.kb.is.dsk).mono ?_
  rintro e w5 ⟨A5,n5,c5,rfl,hd5,hf5,q5⟩
  have Z5:=hid ((Z3.out.step q5).disk (d2:=⟨l2,room2,fuse2,off2⟩) hd5)
  clear e0 e1 e2 e3 e4 e5 e6 e7 e8 e9 f0 f1 f2 f3 f4 f5 f6 f7 f8 f9
  obtain⟨e0,e1,e2,e3,e4,e5,e6,e7,e8,e9⟩:=kget (Z3.out.step q5).kz.kc.kb.box
  obtain⟨f0,f1,f2,f3,f4,f5,f6,f7,f8,f9⟩:=kfree (Z3.out.step q5).kz.kc.kb.box
  clear Z3 hd5 hf5 q5
  go_upto_region 10 with (fail)
  generalize ((((w5.setCell ⟨w.heap.size,0,none⟩ (.slice A5 n5 c5)).setCell ⟨w.heap.size,1,none⟩ (.int .i64 room2)).setCell ⟨w.heap.size,2,none⟩ (.int .i64 fuse2)).setCell ⟨w.heap.size,3,none⟩ (.bool off2))=W5 at Z5 ⊢
  clear e0 e1 e2 e3 e4 e5 e6 e7 e8 e9 f0 f1 f2 f3 f4 f5 f6 f7 f8 f9
  obtain⟨e0,e1,e2,e3,e4,e5,e6,e7,e8,e9⟩:=kget Z5.out.kz.kc.kb.box
  obtain⟨f0,f1,f2,f3,f4,f5,f6,f7,f8,f9⟩:=kfree Z5.out.kz.kc.kb.box
  have Y:=hid (Z5.out.kz.kc.state Z5.out.data Z5.out.toks)
  obtain⟨⟨u0,u1⟩,_⟩:=Z5.out.sb.get2
  clear Z5
  go_upto_region 12 with (fail)
  generalize (W5.setCell ⟨w.heap.size,7,none⟩ (.slice B2 s2.data.length bc2)).setCell ⟨w.heap.size,8,none⟩ (.slice C2 s2.toks.length cc2)=W6 at Y ⊢
  clear e0 e1 e2 e3 e4 e5 e6 e7 e8 e9 f0 f1 f2 f3 f4 f5 f6 f7 f8 f9 u0 u1
  obtain⟨e0,e1,e2,e3,e4,e5,e6,e7,e8,e9⟩:=kget Y.out.kb.box
  obtain⟨f0,f1,f2,f3,f4,f5,f6,f7,f8,f9⟩:=kfree Y.out.kb.box
  refine wp_region_held_drew (S:=fun w'=>Bx w' w.heap.size (kL ⟨A5,n5,c5,B2,s2.data.length,bc2,C2,s2.toks.length,cc2⟩ ⟨⟨l2,room2,fuse2,off2⟩,frm,seg1,run,s2,false⟩)) (by kernel_rfl) ?szz23 (fun hHeld=>?rzz23)
  case szz23 =>
   exact Y.out.kb.box.drew
  refine takeH 0 ?v24 ?y24 ?_
  case y24=>intro w hSw;obtain⟨s0,s1,s2,s3,s4,s5,s6,s7,s8,s9⟩:=kget hSw;go_simp;try with_reducible rfl
  refine tadH 1 ?_
  refine oneH 2 (fun K hK=>?_)
  go_simp
  refine(KV.out _ (Y.out.q.trans (Q.refl _).drew)).mono ?_
  rintro e w4 ⟨rfl,q4⟩
  have V:=hid (Y.out.step ((Q.refl _).drew.trans q4))
  have F:Hid (RetE w a b (⟨⟨l2,room2,fuse2,off2⟩,frm,seg1,run,s2,false⟩,0) (.returned (.tuple #[kvV ⟨A5,n5,c5,B2,s2.data.length,bc2,C2,s2.toks.length,cc2⟩ ⟨⟨l2,room2,fuse2,off2⟩,frm,seg1,run,s2,false⟩,.nilIface])) ((((((((((w4.setCell ⟨w.heap.size+1+1,0,none⟩ (.slice A5 n5 c5)).setCell ⟨w.heap.size+1+1,1,none⟩ (.int .i64 room2)).setCell ⟨w.heap.size+1+1,2,none⟩ (.int .i64 fuse2)).setCell ⟨w.heap.size+1+1,3,none⟩ (.bool off2)).setCell ⟨w.heap.size+1+1,4,none⟩ (.int .i64 frm)).setCell ⟨w.heap.size+1+1,5,none⟩ (.int .i64 seg1)).setCell ⟨w.heap.size+1+1,6,none⟩ (.int .i64 run)).setCell ⟨w.heap.size+1+1,7,none⟩ (.slice B2 s2.data.length bc2)).setCell ⟨w.heap.size+1+1,8,none⟩ (.slice C2 s2.toks.length cc2)).setCell ⟨w.heap.size+1+1,9,none⟩ (.bool false))):=hid (by rw[HV.out];exact V.out.finE V.out.kb.is a b 0)
  have R:Hid (Bx ((((((((((w4.setCell ⟨w.heap.size+1+1,0,none⟩ (.slice A5 n5 c5)).setCell ⟨w.heap.size+1+1,1,none⟩ (.int .i64 room2)).setCell ⟨w.heap.size+1+1,2,none⟩ (.int .i64 fuse2)).setCell ⟨w.heap.size+1+1,3,none⟩ (.bool off2)).setCell ⟨w.heap.size+1+1,4,none⟩ (.int .i64 frm)).setCell ⟨w.heap.size+1+1,5,none⟩ (.int .i64 seg1)).setCell ⟨w.heap.size+1+1,6,none⟩ (.int .i64 run)).setCell ⟨w.heap.size+1+1,7,none⟩ (.slice B2 s2.data.length bc2)).setCell ⟨w.heap.size+1+1,8,none⟩ (.slice C2 s2.toks.length cc2)).setCell ⟨w.heap.size+1+1,9,none⟩ (.bool false)) (w.heap.size+1+1) (kL ⟨A5,n5,c5,B2,s2.data.length,bc2,C2,s2.toks.length,cc2⟩ ⟨⟨l2,room2,fuse2,off2⟩,frm,seg1,run,s2,false⟩)):=hid (V.out.boxR ⟨A5,n5,c5,B2,s2.data.length,bc2,C2,s2.toks.length,cc2⟩ ⟨⟨l2,room2,fuse2,off2⟩,frm,seg1,run,s2,false⟩)
  have U:Hid (Bx ((((((((((w4.setCell ⟨w.heap.size+1+1,0,none⟩ (.slice A5 n5 c5)).setCell ⟨w.heap.size+1+1,1,none⟩ (.int .i64 room2)).setCell ⟨w.heap.size+1+1,2,none⟩ (.int .i64 fuse2)).setCell ⟨w.heap.size+1+1,3,none⟩ (.bool off2)).setCell ⟨w.heap.size+1+1,4,none⟩ (.int .i64 frm)).setCell ⟨w.heap.size+1+1,5,none⟩ (.int .i64 seg1)).setCell ⟨w.heap.size+1+1,6,none⟩ (.int .i64 run)).setCell ⟨w.heap.size+1+1,7,none⟩ (.slice B2 s2.data.length bc2)).setCell ⟨w.heap.size+1+1,8,none⟩ (.slice C2 s2.toks.length cc2)).setCell ⟨w.heap.size+1+1,9,none⟩ (.bool false)) w.heap.size (kL ⟨A5,n5,c5,B2,s2.data.length,bc2,C2,s2.toks.length,cc2⟩ ⟨⟨l2,room2,fuse2,off2⟩,frm,seg1,run,s2,false⟩)):=hid (V.out.kb.box.far_stk (by have:=V.out.lt;omega) (us10 ⟨A5,n5,c5,B2,s2.data.length,bc2,C2,s2.toks.length,cc2⟩ ⟨⟨l2,room2,fuse2,off2⟩,frm,seg1,run,s2,false⟩))
  go_wp2_with fail
  refine hK.out _ _ (V.out.kb.box) (fun hHeld=>?_)
  clear hK K
  try simp only[Act.put,sA,sB,sC]
  refine oneH 3 (fun K hK=>?_)
  obtain⟨g0,g1,g2,g3,g4,g5,g6,g7,g8,g9⟩:=kfree V.out.res
  obtain⟨i0,i1,i2,i3,i4,i5,i6,i7,i8,i9⟩:=kget V.out.res
  go_simp
  refine hK.out _ _ (U.out) (fun hHeld=>?_)
  clear hK K
  try simp only[Act.put,sA,sB,sC]
  refine tadH 4 ?_
  refine doneH ?_
  clear V Y q4 U
  go_wp2
  (try rw[Exit.noGoto_ret])
  obtain⟨r0,r1,r2,r3,r4,r5,r6,r7,r8,r9⟩:=kget R.out
  refine bodyPost_ret (v:=.tuple #[kvV ⟨A5,n5,c5,B2,s2.data.length,bc2,C2,s2.toks.length,cc2⟩ ⟨⟨l2,room2,fuse2,off2⟩,frm,seg1,run,s2,false⟩,.nilIface]) (by simp[results,Tryz.results48,go_sem,r0,r1,r2,r3,r4,r5,r6,r7,r8,r9]) rfl ?_
  rw[HR.out]
  exact F.out
end
section
open Go.RowKit Dkm Prm Km Wm
theorem Kr.dlen {w:World}{p:Kp}{x:Ks}(h:Kr w p x):x.s.data.length=p.bn:=h.data.len
theorem Kr.tlen {w:World}{p:Kp}{x:Ks}(h:Kr w p x):x.s.toks.length=p.cn:=h.toks.len
theorem recB_size (b:Bm.Bt):(recB b).size≤4000:=by
 unfold recB Bm.bytesM
 by_cases h:Bm.may b=true
 · rw[if_pos h]
   have:=Bm.bytes_len h
   show (Bm.bytes b).toArray.size≤4000
   simpa using this
 · rw[if_neg h];show (0:Nat)≤4000;omega
theorem commit_low (p:Kp)(x:Ks)(k:Int)(tok:ByteArray)(D:Option Addr)(dn dc:Nat)(ws:List Wr)(w:World)(a b:Addr)(hT:Kt w a b)(hk:Kr w p x)(hB:Bnd 2305843009213693952 x.d)(hD:Lst writeK w D dn ws)(hdn:dn≤maxLen)
  (hb1:(x.s.data.length+24)*32≤140737488355328) (hb2:(x.s.toks.length+1)*32≤140737488355328) :
  Calls Tryz.prog 48 #[kvV p x,batV k tok D dn dc] w (RetE w a b (comL x ⟨k,tok,ws⟩)):=by
 have KW:Hid (∀ (e:Int) W,Q w W→Calls Tryz.prog 71 #[.int .i64 e] W fun ev w'=>ev=.returned (errV a b e)∧Q W w'):=hid (fun e W q=>(kwrong_any e a b W (hT.q q).sen).mono fun ev w' h=>⟨h.1,by rw[h.2];exact Q.refl _⟩)
 have hl1:=hk.dlen
 have hl2:=hk.tlen
 obtain⟨A,n,c,B,bn,bc,C,cn,cc⟩:=p
 obtain⟨⟨l,room,fuse,off⟩,frm,seg,run,s,down⟩:=x
 simp only at hl1 hl2 hb1 hb2
 cases down with
 | true=>exact commit_down k tok ws w a b (hid hk) KW _ (hid (comL_down _ rfl))
 | false =>
   have KD:=fun W (q:Q w W)=>bdo_any k tok B C D bn bc cn cc dn dc s.data s.toks ws W (hk.data.q q) (hk.toks.q q) (hD.q q) hdn (by rw[←hl1];exact hb1) (by rw[←hl2];exact hb2)
   have hlen:=Bm.doo_len s ⟨k,tok,ws⟩
   cases hdo:Bm.doo s ⟨k,tok,ws⟩ with
   | mk s2 er =>
     have KD2:Hid (∀ W,Q w W→Calls Tryz.prog 90 #[staV B bn bc C cn cc,batV k tok D dn dc] W (RetS W (s2,er))):=hid (fun W q=>by
      have h:=KD W q
      rw[show (⟨s.data,s.toks⟩:Bm.Sta)=s from rfl,hdo] at h
      exact h)
     rw[hdo] at hlen
     have h1:s2.data.length*32≤140737488355328:=by have:=hlen.1;simp only at this;omega
     have h2:s2.toks.length*32≤140737488355328:=by have:=hlen.2;simp only at this;omega
     by_cases h0:er=0
     · subst h0
       have KB:Hid (∀ W,Q w W→Calls Tryz.prog 91 #[batV k tok D dn dc] W fun e w'=>e=.returned (.tuple #[.string (recB ⟨k,tok,ws⟩),.int .i64 (Bm.bytesM ⟨k,tok,ws⟩).2])∧Q W w'):=hid (fun W q=>bbytes_any k tok D dn dc ws W (hD.q q) hdn)
       have KP:=fun W (hT:Tab W) (hd:Dsk W A n c l)=>put_any seg (recB ⟨k,tok,ws⟩) A n c ⟨l,room,fuse,off⟩ W hT hd hB (Nat.le_trans (recB_size _) (by unfold maxLen;omega))
       have hB1:=hB.putM (by omega) seg (recB ⟨k,tok,ws⟩)
       cases hp:putM ⟨l,room,fuse,off⟩ seg (recB ⟨k,tok,ws⟩) with
       | mk d1 r1 =>
         obtain⟨seg1,e1⟩:=r1
         obtain⟨l1,room1,fuse1,off1⟩:=d1
         simp only[hp] at KP hB1
         by_cases he:e1=0
         · subst he
           have KS:=fun W A n c (hT:Tab W) (hd:Dsk W A n c l1)=>wsync_any seg1 A n c ⟨l1,room1,fuse1,off1⟩ W hT hd (fun f hf=>Nat.le_trans (hB1.sum f hf) (by unfold maxLen;omega))
           cases hs:syncM ⟨l1,room1,fuse1,off1⟩ seg1 with
           | mk d2 e2 =>
             obtain⟨l2,room2,fuse2,off2⟩:=d2
             simp only[hs] at KS
             by_cases h5:e2=0
             · subst h5
               exact commit_ok k tok ws w a b s2 _ _ l1 room1 fuse1 off1 seg1 l2 room2 fuse2 off2 0 (hid hT) (hid hk) KW KD2 h1 h2 KB (hid KP) (hid KS) _ (hid (comL_ok rfl hdo hp hs))
             · exact commit_syn k tok ws w a b s2 _ _ l1 room1 fuse1 off1 seg1 l2 room2 fuse2 off2 e2 (hid hT) (hid hk) KW KD2 h1 h2 KB (hid KP) (hid KS) h5 _ (hid (comL_syn rfl hdo hp hs h5))
         · exact commit_put k tok ws w a b s2 _ _ l1 room1 fuse1 off1 seg1 e1 (hid hT) (hid hk) KW KD2 h1 h2 KB (hid KP) he _ (hid (comL_put rfl hdo hp he))
     · exact commit_bad k tok ws w a b s2 er (hid hk) KW KD2 h1 h2 h0 _ (hid (comL_bad rfl hdo h0))
theorem Commit_core {A:Option Addr}{n c:Nat}{B:Option Addr}{bn bc:Nat}{C:Option Addr}{cn cc:Nat}{D:Option Addr}{dn dc:Nat}{l:List Fil}{room fuse:Int}{off:Bool}{frm seg run:Int}{s:Bm.Sta}{down:Bool}(k:Int)(tok:ByteArray)(w:World)(a b:Addr)(y:Ks)(er:Int)
  (l2:List Fil) (room2 fuse2:Int) (off2:Bool) (frm2 seg2 run2:Int) (s2:Bm.Sta) (down2:Bool) (ve:Value)
  (HK:Hid (Kr w ⟨A,n,c,B,bn,bc,C,cn,cc⟩ ⟨⟨l,room,fuse,off⟩,frm,seg,run,s,down⟩))
  (KO:Hid (∀ W,Q w W→Calls Tryz.prog 49 #[kvV ⟨A,n,c,B,bn,bc,C,cn,cc⟩ ⟨⟨l,room,fuse,off⟩,frm,seg,run,s,down⟩] W (RetK1 W ⟨⟨l,room,fuse,off⟩,frm,seg,run,s,down⟩)))
  (KL:Hid (∀ p W,Kr W p ⟨⟨l,room,fuse,off⟩,frm,seg,run,s,down⟩→Q w W→Calls Tryz.prog 48 #[kvV p ⟨⟨l,room,fuse,off⟩,frm,seg,run,s,down⟩,batV k tok D dn dc] W fun e w'=>∃ p',e=.returned (.tuple #[kvV p' y,ve])∧Kr w' p' y∧Q W w'))
  (KA:Hid (∀ p W,Kr W p y→Q w W→Calls Tryz.prog 47 #[kvV p y,ve] W fun e w'=>∃ p',e=.returned (.tuple #[kvV p' ⟨⟨l2,room2,fuse2,off2⟩,frm2,seg2,run2,s2,down2⟩,.int .i64 er])∧Kr w' p' ⟨⟨l2,room2,fuse2,off2⟩,frm2,seg2,run2,s2,down2⟩∧Q W w')) :
  Calls Tryz.prog 17 #[kvV ⟨A,n,c,B,bn,bc,C,cn,cc⟩ ⟨⟨l,room,fuse,off⟩,frm,seg,run,s,down⟩,batV k tok D dn dc] w (RetK w ⟨⟨l2,room2,fuse2,off2⟩,frm2,seg2,run2,s2,down2⟩ [.int .i64 er]):=by
 have Z:Hid (Kz w ⟨A,n,c,B,bn,bc,C,cn,cc⟩ ⟨⟨l,room,fuse,off⟩,frm,seg,run,s,down⟩ k tok D dn dc (((w.alloc (.cells #[.slice A n c,.int .i64 room,.int .i64 fuse,.bool off,.int .i64 frm,.int .i64 seg,.int .i64 run,.slice B bn bc,.slice C cn cc,.bool down] 32)).alloc (.cells #[.int .i64 k,.string tok,.slice D dn dc] 48)).alloc (.cells #[.slice none 0 0,.int .i64 0,.int .i64 0,.bool false,.int .i64 0,.int .i64 0,.int .i64 0,.slice none 0 0,.slice none 0 0,.bool false] 32))):=hid (Kz.new HK.out k tok D dn dc)
 clear HK
 go_enter Tryz.func17,Tryz.ntmps17
 go_upto_region 1 with (fail)
 generalize (((w.alloc (.cells #[.slice A n c,.int .i64 room,.int .i64 fuse,.bool off,.int .i64 frm,.int .i64 seg,.int .i64 run,.slice B bn bc,.slice C cn cc,.bool down] 32)).alloc (.cells #[.int .i64 k,.string tok,.slice D dn dc] 48)).alloc (.cells #[.slice none 0 0,.int .i64 0,.int .i64 0,.bool false,.int .i64 0,.int .i64 0,.int .i64 0,.slice none 0 0,.slice none 0 0,.bool false] 32))=W at Z ⊢
 refine wp_region_held_drew (S:=fun w'=>Bx w' w.heap.size (kL ⟨A,n,c,B,bn,bc,C,cn,cc⟩ ⟨⟨l,room,fuse,off⟩,frm,seg,run,s,down⟩)∧Bx w' (w.heap.size+1) [.int .i64 k,.string tok,.slice D dn dc]) (by kernel_rfl) ?szz0 (fun hHeld=>?rzz0)
 case szz0 =>
  exact⟨Z.out.kc.kb.box.drew,Z.out.bb.drew⟩
 refine takeH 0 ?v1 ?y1 ?_
 case y1=>intro w hSw;obtain⟨s0,s1,s2,s3,s4,s5,s6,s7,s8,s9⟩:=kget hSw.1;obtain⟨b0,b1,b2⟩:=hSw.2.get3.1;go_simp;try with_reducible rfl
 refine takeH 2 ?v2 ?y2 ?_
 case y2=>intro w hSw;obtain⟨s0,s1,s2,s3,s4,s5,s6,s7,s8,s9⟩:=kget hSw.1;obtain⟨b0,b1,b2⟩:=hSw.2.get3.1;go_simp;try with_reducible rfl
 refine oneH 1 (fun K hK=>?_)
 go_simp
 refine(KO.out _ (Z.out.kc.q.trans (Q.refl _).drew)).mono ?_
 rintro e w1 ⟨p1,rfl,k1,q1⟩
 have V1:=hid (Z.out.step ((Q.refl _).drew.trans q1))
 have K1:=hid k1
 clear k1 q1
 go_wp2_with fail
 refine hK.out _ _ (⟨V1.out.kc.kb.box,V1.out.bb⟩) (fun hHeld=>?_)
 clear hK K
 try simp only[Act.put,sA,sB,sC]
 refine oneH 3 (fun K hK=>?_)
 go_simp
 refine(KL.out p1 _ K1.out V1.out.kc.q).mono ?_
 rintro e w2 ⟨p2,rfl,k2,q2⟩
 have V2:=hid (V1.out.step q2)
 have K2:=hid k2
 clear k2 q2
 go_wp2_with fail
 refine hK.out _ _ (⟨V2.out.kc.kb.box,V2.out.bb⟩) (fun hHeld=>?_)
 clear hK K
 try simp only[Act.put,sA,sB,sC]
 refine tadH 4 ?_
 refine tadH 5 ?_
 refine oneH 6 (fun K hK=>?_)
 go_simp
 refine(KA.out p2 _ K2.out V2.out.kc.q).mono ?_
 rintro e w4 ⟨p3,rfl,k3,q3⟩
 have V3:=hid (V2.out.step q3)
 have K3:=hid k3
 clear k3 q3
 obtain⟨A2,n2,c2,B2,bn2,bc2,C2,cn2,cc2⟩:=p3
 have F:Hid (RetK w ⟨⟨l2,room2,fuse2,off2⟩,frm2,seg2,run2,s2,down2⟩ [.int .i64 er] (.returned (.tuple #[kvV ⟨A2,n2,c2,B2,bn2,bc2,C2,cn2,cc2⟩ ⟨⟨l2,room2,fuse2,off2⟩,frm2,seg2,run2,s2,down2⟩,.int .i64 er])) ((((((((((w4.setCell ⟨w.heap.size+1+1,0,none⟩ (.slice A2 n2 c2)).setCell ⟨w.heap.size+1+1,1,none⟩ (.int .i64 room2)).setCell ⟨w.heap.size+1+1,2,none⟩ (.int .i64 fuse2)).setCell ⟨w.heap.size+1+1,3,none⟩ (.bool off2)).setCell ⟨w.heap.size+1+1,4,none⟩ (.int .i64 frm2)).setCell ⟨w.heap.size+1+1,5,none⟩ (.int .i64 seg2)).setCell ⟨w.heap.size+1+1,6,none⟩ (.int .i64 run2)).setCell ⟨w.heap.size+1+1,7,none⟩ (.slice B2 bn2 bc2)).setCell ⟨w.heap.size+1+1,8,none⟩ (.slice C2 cn2 cc2)).setCell ⟨w.heap.size+1+1,9,none⟩ (.bool down2))):=hid (V3.out.kc.fin K3.out [.int .i64 er])
 have R:Hid (Bx ((((((((((w4.setCell ⟨w.heap.size+1+1,0,none⟩ (.slice A2 n2 c2)).setCell ⟨w.heap.size+1+1,1,none⟩ (.int .i64 room2)).setCell ⟨w.heap.size+1+1,2,none⟩ (.int .i64 fuse2)).setCell ⟨w.heap.size+1+1,3,none⟩ (.bool off2)).setCell ⟨w.heap.size+1+1,4,none⟩ (.int .i64 frm2)).setCell ⟨w.heap.size+1+1,5,none⟩ (.int .i64 seg2)).setCell ⟨w.heap.size+1+1,6,none⟩ (.int .i64 run2)).setCell ⟨w.heap.size+1+1,7,none⟩ (.slice B2 bn2 bc2)).setCell ⟨w.heap.size+1+1,8,none⟩ (.slice C2 cn2 cc2)).setCell ⟨w.heap.size+1+1,9,none⟩ (.bool down2)) (w.heap.size+1+1) (kL ⟨A2,n2,c2,B2,bn2,bc2,C2,cn2,cc2⟩ ⟨⟨l2,room2,fuse2,off2⟩,frm2,seg2,run2,s2,down2⟩)):=hid (V3.out.kc.boxR ⟨A2,n2,c2,B2,bn2,bc2,C2,cn2,cc2⟩ ⟨⟨l2,room2,fuse2,off2⟩,frm2,seg2,run2,s2,down2⟩)
 have U:Hid (Bx ((((((((((w4.setCell ⟨w.heap.size+1+1,0,none⟩ (.slice A2 n2 c2)).setCell ⟨w.heap.size+1+1,1,none⟩ (.int .i64 room2)).setCell ⟨w.heap.size+1+1,2,none⟩ (.int .i64 fuse2)).setCell ⟨w.heap.size+1+1,3,none⟩ (.bool off2)).setCell ⟨w.heap.size+1+1,4,none⟩ (.int .i64 frm2)).setCell ⟨w.heap.size+1+1,5,none⟩ (.int .i64 seg2)).setCell ⟨w.heap.size+1+1,6,none⟩ (.int .i64 run2)).setCell ⟨w.heap.size+1+1,7,none⟩ (.slice B2 bn2 bc2)).setCell ⟨w.heap.size+1+1,8,none⟩ (.slice C2 cn2 cc2)).setCell ⟨w.heap.size+1+1,9,none⟩ (.bool down2)) w.heap.size (kL ⟨A,n,c,B,bn,bc,C,cn,cc⟩ ⟨⟨l,room,fuse,off⟩,frm,seg,run,s,down⟩)∧Bx ((((((((((w4.setCell ⟨w.heap.size+1+1,0,none⟩ (.slice A2 n2 c2)).setCell ⟨w.heap.size+1+1,1,none⟩ (.int .i64 room2)).setCell ⟨w.heap.size+1+1,2,none⟩ (.int .i64 fuse2)).setCell ⟨w.heap.size+1+1,3,none⟩ (.bool off2)).setCell ⟨w.heap.size+1+1,4,none⟩ (.int .i64 frm2)).setCell ⟨w.heap.size+1+1,5,none⟩ (.int .i64 seg2)).setCell ⟨w.heap.size+1+1,6,none⟩ (.int .i64 run2)).setCell ⟨w.heap.size+1+1,7,none⟩ (.slice B2 bn2 bc2)).setCell ⟨w.heap.size+1+1,8,none⟩ (.slice C2 cn2 cc2)).setCell ⟨w.heap.size+1+1,9,none⟩ (.bool down2)) (w.heap.size+1) [.int .i64 k,.string tok,.slice D dn dc]):=hid ⟨V3.out.kc.kb.box.far_stk (by have:=V3.out.kc.lt;omega) (us10 ⟨A2,n2,c2,B2,bn2,bc2,C2,cn2,cc2⟩ ⟨⟨l2,room2,fuse2,off2⟩,frm2,seg2,run2,s2,down2⟩),V3.out.bb.far_stk (by omega) (us10 ⟨A2,n2,c2,B2,bn2,bc2,C2,cn2,cc2⟩ ⟨⟨l2,room2,fuse2,off2⟩,frm2,seg2,run2,s2,down2⟩)⟩
 go_wp2_with fail
 refine hK.out _ _ (⟨V3.out.kc.kb.box,V3.out.bb⟩) (fun hHeld=>?_)
 clear hK K
 try simp only[Act.put,sA,sB,sC]
 refine tadH 7 ?_
 refine tadH 8 ?_
 refine oneH 9 (fun K hK=>?_)
 obtain⟨g0,g1,g2,g3,g4,g5,g6,g7,g8,g9⟩:=kfree V3.out.kc.res
 obtain⟨i0,i1,i2,i3,i4,i5,i6,i7,i8,i9⟩:=kget V3.out.kc.res
 go_simp
 refine hK.out _ _ (U.out) (fun hHeld=>?_)
 clear hK K
 try simp only[Act.put,sA,sB,sC]
 refine tadH 10 ?_
 refine doneH ?_
 clear V1 V2 V3 K1 K2 K3 Z U
 go_wp2
 (try rw[Exit.noGoto_ret])
 obtain⟨r0,r1,r2,r3,r4,r5,r6,r7,r8,r9⟩:=kget R.out
 refine bodyPost_ret (v:=.tuple #[kvV ⟨A2,n2,c2,B2,bn2,bc2,C2,cn2,cc2⟩ ⟨⟨l2,room2,fuse2,off2⟩,frm2,seg2,run2,s2,down2⟩,.int .i64 er]) (by simp[results,Tryz.results17,go_sem,r0,r1,r2,r3,r4,r5,r6,r7,r8,r9]) rfl ?_
 exact F.out
theorem Commit_any (p:Kp)(x:Ks)(k:Int)(tok:ByteArray)(D:Option Addr)(dn dc:Nat)(ws:List Wr)(w:World)(a b:Addr)(hT:Kt w a b)(hk:Kr w p x)(hB:Bnd 2305843009213693952 x.d)(hD:Lst writeK w D dn ws)(hdn:dn≤maxLen)
  (hb1:(x.s.data.length+24)*32≤140737488355328) (hb2:(x.s.toks.length+1)*32≤140737488355328) :
  Calls Tryz.prog 17 #[kvV p x,batV k tok D dn dc] w (RetK w (comM x ⟨k,tok,ws⟩).1 [.int .i64 (comM x ⟨k,tok,ws⟩).2]):=by
 have KO:=fun W (q:Q w W)=>kown_any p x W (hk.q q)
 have KL:=fun p' W (h:Kr W p' x) (q:Q w W)=>commit_low p' x k tok D dn dc ws W a b (hT.q q) h hB (hD.q q) hdn hb1 hb2
 have KA:=fun p' W (h:Kr W p' (comL x ⟨k,tok,ws⟩).1) (q:Q w W)=>answer_any p' (comL x ⟨k,tok,ws⟩).1 (comL x ⟨k,tok,ws⟩).2 a b W h (hT.q q)
 rw[comL_comM]
 generalize comL x ⟨k,tok,ws⟩=y at KL KA ⊢
 obtain⟨y,er⟩:=y
 simp only at KL KA ⊢
 generalize Ks.gon y er=z at KA ⊢
 obtain⟨A,n,c,B,bn,bc,C,cn,cc⟩:=p
 obtain⟨⟨l,room,fuse,off⟩,frm,seg,run,s,down⟩:=x
 obtain⟨⟨l2,room2,fuse2,off2⟩,frm2,seg2,run2,s2,down2⟩:=z
 exact Commit_core k tok w a b y er l2 room2 fuse2 off2 frm2 seg2 run2 s2 down2 (errV a b er) (hid hk) (hid KO) (hid KL) (hid KA)
end
section
open Go.RowKit Prm
def exWr:Wr:=⟨⟨#[97]⟩,⟨#[49]⟩,false⟩
theorem bex_may:Bm.may ⟨1,⟨#[116]⟩,[exWr]⟩=true:=by decide
theorem bex_bytes:Bm.bytesM ⟨1,⟨#[116]⟩,[exWr]⟩=([49,59,49,59,116,49,59,48,59,49,59,97,49,59,49],0):=by
 have e1:Dm.num 1=[49,59]:=by unfold Dm.num;rw[show Dm.dg 1=[49] by rw[Dm.dg];rfl];rfl
 have e0:Dm.num 0=[48,59]:=by unfold Dm.num;rw[show Dm.dg 0=[48] by rw[Dm.dg];rfl];rfl
 unfold Bm.bytesM
 rw[bex_may]
 show (Dm.num 1++(Dm.num 1++[116])++Dm.num 1++(Dm.num 0++(Dm.num 1++[97])++(Dm.num 1++[49])++[]),(0:Int))=_
 rw[e1,e0];rfl
end
section
open Go.RowKit Dkm Prm Km Wm Du Wl
def exB:Bm.Bt:=⟨1,⟨#[116]⟩,[exWr]⟩
def exS:Bm.Sta:=⟨[⟨⟨#[97]⟩,⟨#[49]⟩⟩],[⟨⟨#[116]⟩,⟨#[99]⟩⟩]⟩
theorem ex_doo:Bm.doo ⟨[],[]⟩ exB=(exS,0):=by
 unfold Bm.doo
 rw[if_neg (by unfold exB;rw[bex_may];simp),if_neg (by decide)]
 rfl
theorem ex_rec:recB exB=⟨#[49,59,49,59,116,49,59,48,59,49,59,97,49,59,49]⟩:=by unfold recB exB;rw[bex_bytes]
theorem nam_one:namB 1=⟨#[119,49]⟩:=by
 unfold namB nam
 rw[if_pos (by decide),show (1:Int).toNat=1 from rfl,show Dm.dg 1=[49] by rw[Dm.dg];rfl]
theorem putM_new (room:Int)(rec:ByteArray)(h1:rec.size≤2048)(h2:(sealB rec).size≤room):putM ⟨[],room,-1,false⟩ 1 rec=(⟨[⟨namB 1,⟨#[]⟩,sealB rec⟩],room - (sealB rec).size,-1,false⟩,1,0):=by
 have h3:(sealB rec).size≤65536:=by
  rw[sealB_size]
  have:=sld_length rec.data.toList (by rw[Rn.size_data];omega)
  rw[Rn.size_data] at this
  omega
 have hn:nmOk (namB 1)=true:=by rw[nam_one];decide
 have hr:(redd (namB 1) ([]:List Fil)).1.size<256:=by rw[redd_none (by simp)];decide
 have ho:opn (namB 1) ([]:List Fil)=(⟨namB 1,⟨#[]⟩,⟨#[]⟩⟩,0):=opn_none (by simp)
 have hsh:Dkm.short (-1) (sealB rec)=false:=by unfold Dkm.short;simp
 have hcut:Dkm.cut (-1) (sealB rec)=sealB rec:=by unfold Dkm.cut;rw[hsh];rfl
 unfold putM
 rw[if_neg (by decide),if_neg (by omega)]
 unfold putB
 rw[if_pos hr]
 unfold putA
 have ha:appd ⟨[],room,-1,false⟩ (namB 1) (sealB rec)=(⟨[⟨namB 1,⟨#[]⟩,sealB rec⟩],room - (sealB rec).size,-1,false⟩,0):=by
  unfold appd
  simp only[hn,ho,hcut,hsh]
  rw[if_neg (by simp),if_neg (by simp),if_neg (by simp;omega),if_neg (by show ¬ 65536<0+0+(sealB rec).size;omega)]
  simp only[Dkm.put,List.length_nil,if_true,List.nil_append]
  rw[show (⟨#[]⟩:ByteArray)++sealB rec=sealB rec from ByteArray.ext (by simp[ByteArray.data_append])]
  simp
 rw[ha]
theorem syncM_new (room:Int)(s:ByteArray):(syncM ⟨[⟨namB 1,⟨#[]⟩,s⟩],room,-1,false⟩ 1).2=0:=by
 have hh:(hit (namB 1) [⟨namB 1,⟨#[]⟩,s⟩]).2=true:=by
  have:=hit_end (nm:=namB 1) (l:=[]) (f:=⟨namB 1,⟨#[]⟩,s⟩) rfl (by simp)
  rw[show ([]++[⟨namB 1,⟨#[]⟩,s⟩]:List Fil)=[⟨namB 1,⟨#[]⟩,s⟩] from rfl] at this
  rw[this]
 unfold syncM
 rw[if_pos hh]
 exact syn_on ⟨rfl,by show (-1:Int)<0;omega⟩ _ (fun i j hi hj hne=>by simp at hi hj;omega) hh
def exX:Ks:=⟨⟨[],1000,-1,false⟩,1,1,0,⟨[],[]⟩,false⟩
theorem ex_kn:Kn 0 exX:=by have:=open_kn 1000;rw[open_new] at this;exact this
theorem ex_com:(comM exX exB).2=0:=by
 have hp:=putM_new 1000 (recB exB) (by rw[ex_rec];decide) (by
  rw[sealB_size]
  have:=sld_length (recB exB).data.toList (by rw[ex_rec];decide)
  rw[show (recB exB).data.toList.length=15 by rw[ex_rec];rfl] at this
  omega)
 have hs:=syncM_new (1000 - (sealB (recB exB)).size) (sealB (recB exB))
 unfold comM
 rw[if_neg (by decide),if_neg (by show ¬ (Bm.doo ⟨[],[]⟩ exB).2≠0;rw[ex_doo];simp)]
 show (comA exX _ (putM ⟨[],1000,-1,false⟩ 1 (recB exB))).2=0
 rw[hp]
 unfold comA
 rw[if_neg (by simp)]
 unfold comB
 simp only
 rw[if_neg (by rw[hs];simp)]
theorem ex_sta:(comM exX exB).1.s=exS:=by rw[(comM_ok ex_com).2];show (Bm.doo ⟨[],[]⟩ exB).1=exS;rw[ex_doo]
theorem ex_bnd:Bnd 2097152 exX.d:=⟨by simp[exX],by simp[exX],⟨by simp[exX],by simp[exX]⟩,⟨by simp[exX],by simp[exX]⟩⟩
theorem ex_rec0:recM ⟨[],1000,-1,false⟩ 1=(⟨[],1000,-1,false⟩,[],1,0):=by
 unfold recM
 rw[if_neg (by decide)]
 show recF (999999+1) _ _ _ _ _=_
 unfold recF
 rw[if_neg (by decide),if_pos (by rw[redd_none (by simp)];decide)]
theorem ex_all:∃ x1 y:Ks,comM exX exB=(x1,0)∧x1.s=exS∧Bnd 2097152 x1.d∧openM (crs x1.d [])=(y,0)∧y.s=exS∧(recM (crs x1.d []) 1).2.1.length≤1∧(redd mB (crs x1.d []).fs).2≠0:=by
 obtain⟨c1,_,c3,c4,c5⟩:=(ex_kn.com exB).1.crash []
 refine⟨(comM exX exB).1,(crsM (comM exX exB).1 []).1,?_,ex_sta,Bnd.com ex_bnd (by omega) exB,?_,c3.trans ex_sta,c4,c5⟩
 · rw[←ex_com]
 · rw[←c1];rfl
theorem kshown_any (a b:Addr)(w:World)(hT:Kt w a b):Calls Tryz.prog 6 #[] w fun e w'=>e=.returned (.bool true)∧Q w w':=by
 obtain⟨x1,y,h1,h2,h3,h4,h5,h6,h7⟩:=ex_all
 have HT:=hid hT
 have KO:=hid (fun (W:World) (q:Q w W) (hd:Dsk W none 0 0 ([]:List Fil))=>by
  have:=kOpen_no none 0 0 ⟨[],1000,-1,false⟩ W a b (hT.q q) hd ex_bnd (by rw[redd_none (by simp)];decide) (by rw[ex_rec0];decide)
  rw[open_new] at this
  exact this)
 have KC:=hid (fun p (W:World) (q:Q w W) (hk:Kr W p exX) (D:Option Addr) (hD:Lst writeK W D 1 [exWr])=>by
  have:=Commit_any p exX 1 ⟨#[116]⟩ D 1 1 [exWr] W a b (hT.q q) hk (ex_bnd.more (by omega)) hD (by unfold maxLen;omega) (by simp[exX]) (by simp[exX])
  rw[show (⟨1,⟨#[116]⟩,[exWr]⟩:Bm.Bt)=exB from rfl,h1] at this
  exact this)
 have KR:=hid (fun p (W:World) (q:Q w W) (hk:Kr W p x1)=>kCrash_of p x1 none 0 0 [] (y,0) W hk (Ints.none_ _ _) (by unfold maxLen;omega) (mx21 h3) (hid fun A n c W2 q2 hd=>by
  have:=kOpen_no A n c (crs x1.d []) W2 a b ((hT.q q).q q2) hd (Bnd.crsK h3 []) h7 (by omega)
  rw[h4] at this
  exact this))
 obtain⟨⟨l2,room2,fuse2,off2⟩,frm2,seg2,run2,s2,down2⟩:=x1
 obtain⟨⟨l3,room3,fuse3,off3⟩,frm3,seg3,run3,s3,down3⟩:=y
 simp only at KC KR h2 h5
 subst h2 h5
 clear h1 h3 h4 h6 h7 hT
 go_enter Tryz.func6,Tryz.ntmps6
 go_wp2_with fail
 refine(ref_new_any 1000 _ (by omega)).mono ?_
 rintro e w1 ⟨rfl,q1⟩
 have QA:=hid (q1.alloc (.cells #[.slice none 0 0,.int .i64 1000,.int .i64 (-1),.bool false] 24))
 clear q1
 go_wp2_with fail
 refine(KO.out _ QA.out (kr0 _).dsk).mono ?_
 rintro e w2 ⟨p1,rfl,k2,q2⟩
 obtain⟨A1,n1,c1,B1,bn1,bc1,C1,cn1,cc1⟩:=p1
 have QB:=hid (QA.out.trans q2)
 have K0:=hid k2
 clear q2 k2 QA
 have X:Hid (Kb (w2.alloc (.cells #[.slice A1 n1 c1,.int .i64 1000,.int .i64 (-1),.bool false,.int .i64 1,.int .i64 1,.int .i64 0,.slice B1 bn1 bc1,.slice C1 cn1 cc1,.bool false] 32)) w2.heap.size ⟨A1,n1,c1,B1,bn1,bc1,C1,cn1,cc1⟩ exX):=hid (Kb.new K0.out)
 have QC:Hid (Q w (w2.alloc (.cells #[.slice A1 n1 c1,.int .i64 1000,.int .i64 (-1),.bool false,.int .i64 1,.int .i64 1,.int .i64 0,.slice B1 bn1 bc1,.slice C1 cn1 cc1,.bool false] 32))):=hid (QB.out.alloc _)
 have hz:w.heap.size≤w2.heap.size:=QB.out.size
 clear QB K0
 go_upto_region 3 with (fail)
 generalize w2.alloc (.cells #[.slice A1 n1 c1,.int .i64 1000,.int .i64 (-1),.bool false,.int .i64 1,.int .i64 1,.int .i64 0,.slice B1 bn1 bc1,.slice C1 cn1 cc1,.bool false] 32)=W at X QC ⊢
 generalize w2.heap.size=g at X hz ⊢
 obtain⟨e0,e1,e2,e3,e4,e5,e6,e7,e8,e9⟩:=kget X.out.box
 go_wp2_with fail
 refine(KC.out _ _ (QC.out.alloc _) (X.out.is.q ((Q.refl _).alloc _)) _ (lit_write W exWr).lst).mono ?_
 rintro e w3 ⟨p2,rfl,k3,q3⟩
 obtain⟨A2,n2,c2,B2,bn2,bc2,C2,cn2,cc2⟩:=p2
 have Q3:=hid ((QC.out.alloc (.cells #[.string ⟨#[97]⟩,.string ⟨#[49]⟩,.bool false] 73)).trans q3)
 have B3:=hid (X.out.box.q (((Q.refl _).alloc (.cells #[.string ⟨#[97]⟩,.string ⟨#[49]⟩,.bool false] 73)).trans q3))
 have U0:=Kb.whole B3.out k3
 have QD0:=Q.stk hz (us10 ⟨A2,n2,c2,B2,bn2,bc2,C2,cn2,cc2⟩ ⟨⟨l2,room2,fuse2,off2⟩,frm2,seg2,run2,exS,down2⟩) Q3.out
 dsimp only[us10,stk] at U0 QD0
 have U:=hid U0
 have QD:=hid QD0
 clear U0 QD0
 clear q3 k3 X QC Q3 e0 e1 e2 e3 e4 e5 e6 e7 e8 e9
 obtain⟨e0,e1,e2,e3,e4,e5,e6,e7,e8,e9⟩:=kget B3.out
 obtain⟨f0,f1,f2,f3,f4,f5,f6,f7,f8,f9⟩:=kfree B3.out
 clear B3
 go_upto_region 4 with (fail)
 generalize ((((((((((w3.setCell ⟨w2.heap.size,0,none⟩ (.slice A2 n2 c2)).setCell ⟨w2.heap.size,1,none⟩ (.int .i64 room2)).setCell ⟨w2.heap.size,2,none⟩ (.int .i64 fuse2)).setCell ⟨w2.heap.size,3,none⟩ (.bool off2)).setCell ⟨w2.heap.size,4,none⟩ (.int .i64 frm2)).setCell ⟨w2.heap.size,5,none⟩ (.int .i64 seg2)).setCell ⟨w2.heap.size,6,none⟩ (.int .i64 run2)).setCell ⟨w2.heap.size,7,none⟩ (.slice B2 bn2 bc2)).setCell ⟨w2.heap.size,8,none⟩ (.slice C2 cn2 cc2)).setCell ⟨w2.heap.size,9,none⟩ (.bool down2))=W4 at U QD ⊢
 clear e0 e1 e2 e3 e4 e5 e6 e7 e8 e9 f0 f1 f2 f3 f4 f5 f6 f7 f8 f9
 obtain⟨e0,e1,e2,e3,e4,e5,e6,e7,e8,e9⟩:=kget U.out.box
 go_wp2_with fail
 refine(KR.out _ _ QD.out U.out.is).mono ?_
 rintro e w5 ⟨p3,rfl,k5,q5⟩
 clear e0 e1 e2 e3 e4 e5 e6 e7 e8 e9
 obtain⟨A3,n3,c3,B3,bn3,bc3,C3,cn3,cc3⟩:=p3
 have hb1:1=bn3:=k5.data.len
 have hc1:1=cn3:=k5.toks.len
 subst hb1 hc1
 obtain⟨ad,hB,hab,y0,y1⟩:=load_pair (k5.data.lst.q ((Q.refl w5).alloc (.cells #[.slice A3 n3 c3,.int .i64 room3,.int .i64 fuse3,.bool off3,.int .i64 frm3,.int .i64 seg3,.int .i64 run3,.slice B3 1 bc3,.slice C3 1 cc3,.bool down3] 32))) (k:=0) (by show 0<1;omega) (by simp[exS])
 have hB:B3=some ad:=hB
 subst hB
 have Y:Hid (Kb (w5.alloc (.cells #[.slice A3 n3 c3,.int .i64 room3,.int .i64 fuse3,.bool off3,.int .i64 frm3,.int .i64 seg3,.int .i64 run3,.slice (some ad) 1 bc3,.slice C3 1 cc3,.bool down3] 32)) w5.heap.size ⟨A3,n3,c3,some ad,1,bc3,C3,1,cc3⟩ ⟨⟨l3,room3,fuse3,off3⟩,frm3,seg3,run3,exS,down3⟩):=hid (Kb.new k5)
 have QE:Hid (Q w (w5.alloc (.cells #[.slice A3 n3 c3,.int .i64 room3,.int .i64 fuse3,.bool off3,.int .i64 frm3,.int .i64 seg3,.int .i64 run3,.slice (some ad) 1 bc3,.slice C3 1 cc3,.bool down3] 32))):=hid ((QD.out.trans q5).alloc _)
 have HY:=hid y1
 clear q5 k5 U QD y0 y1
 go_upto_region 5 with (fail)
 generalize w5.alloc (.cells #[.slice A3 n3 c3,.int .i64 room3,.int .i64 fuse3,.bool off3,.int .i64 frm3,.int .i64 seg3,.int .i64 run3,.slice (some ad) 1 bc3,.slice C3 1 cc3,.bool down3] 32)=W5 at Y QE HY hab ⊢
 have y1:W5.cell? ⟨ad.block,ad.off+1,none⟩=some (.string ⟨#[49]⟩):=by simpa [exS,Addr.add] using HY.out
 obtain⟨e0,e1,e2,e3,e4,e5,e6,e7,e8,e9⟩:=kget Y.out.box
 go_wp2
 go_ret
 exact⟨by first | rfl | simp,by first | exact QE.out | exact QE.out.drew⟩
end
section
open Go.ChangeShapes Go.WideShapes Go.ChangeAt Go.RowKit
def RdU (w:World)(t:TypeId)(cs:List Value):Prop:=
 ∃ (H:Type) (enc:TypeId×Value→H) (n:Nat) (d:DataW H) (ps:List MemPlace),DataW.trod enc Tryz.prog w 0 (fun _=>true) true n t cs=some (d,ps)∧Rows.uptoBulk d≤1048576
theorem bulk_one {H:Type}(d:DataW H):1≤Rows.uptoBulk d:=by
 cases d with
 | lit l=>cases l<;>simp[Rows.uptoBulk]
 | nil=>simp[Rows.uptoBulk]
 | ptr d=>simp[Rows.uptoBulk]
 | slice elems spare=>simp[Rows.uptoBulk]
 | agg parts=>simp[Rows.uptoBulk]
 | iface t d=>simp[Rows.uptoBulk]
 | map entries=>simp[Rows.uptoBulk]
 | held h=>simp[Rows.uptoBulk]
theorem bulk_part {H:Type}{d:DataW H}{l:List (DataW H)}(h:d∈l):Rows.uptoBulk d≤Rows.uptoBulkAll l:=by
 induction l with
 | nil=>cases h
 | cons x r ih =>
   simp only[Rows.uptoBulkAll]
   cases List.mem_cons.1 h with
   | inl e=>subst e;omega
   | inr e=>have:=ih e;omega
theorem bulk_len {H:Type}(l:List (DataW H)):l.length≤Rows.uptoBulkAll l:=by
 induction l with
 | nil=>simp[Rows.uptoBulkAll]
 | cons x r ih=>have:=bulk_one x;simp only[Rows.uptoBulkAll,List.length_cons];omega
theorem RdU.string {w:World}{t:TypeId}{s:ByteArray}(h:RdU w t [.string s])(ht:Tryz.prog.underlying t=some .string):s.size≤1048576:=by
 obtain⟨H,enc,n,d,ps,ht',hw⟩:=h
 obtain⟨s',e,hx,hm⟩:=DataW.trod_string ht ht'
 injection hx with h1 h2
 subst h1
 simp only[List.cons.injEq,Value.string.injEq,and_true] at e
 subst e
 simp only[Rows.uptoBulk] at hw
 have:s.data.toList.length=s.size:=by simp
 omega
theorem RdU.field {w:World}{t:TypeId}{cs:List Value}{fs:Array Field}(h:RdU w t cs)(ht:Tryz.prog.underlying t=some (.struct fs))(i:Nat){ty:TypeId}(off k:Nat)(hi:(fs[i]?).map (fun f=>(f.type,f.offset))=some (ty,off))(hk:Tryz.prog.cellsOf ty=k) :
    RdU w ty ((cs.drop off).take k):=by
  obtain⟨f,hf,he⟩:=Option.map_eq_some_iff.1 hi
  injection he with e1 e2
  subst e1 e2 hk
  obtain⟨H,enc,n,d,ps,ht',hw⟩:=h
  obtain⟨xs,m,rfl,hx,hl,hlen,hg⟩:=DataW.trod_struct ht ht'
  injection hx with h1 h2
  subst h1
  have hil:i<fs.size:=(Array.getElem?_eq_some_iff.1 hf).1
  have hxi:xs[i]? = some xs[i]:=List.getElem?_eq_getElem (by omega)
  refine⟨H,enc,m,xs[i].1,xs[i].2,(hg i f hf).trans hxi,?_⟩
  simp only[Rows.uptoBulk] at hw
  have:=bulk_part (l:=xs.map (·.1)) (List.mem_map.2 ⟨xs[i],List.getElem_mem _,rfl⟩)
  omega
theorem RdU.slice {w:World}{t e:TypeId}{a:Addr}{len cap:Nat}(h:RdU w t [.slice (some a) len cap])(ht:Tryz.prog.underlying t=some (.slice e)) :
  cap≤1048576∧∀ i,i<cap→∃ cs',w.cells? 0 (a.add (i * Tryz.prog.cellsOf e)) (Tryz.prog.cellsOf e)=some cs'∧RdU w e cs':=by
 obtain⟨H,enc,n,d,ps,ht',hw⟩:=h
 rcases Deep.open_slice ht ht' with ⟨h0,_⟩ | ⟨a',len',cap',m,n',D,Pl,hcs,hb,hl,hm,hmm,hx,hi⟩
 · simp at h0
 · simp only[List.cons.injEq,Value.slice.injEq,Option.some.injEq,and_true] at hcs
   obtain⟨rfl,rfl,rfl⟩:=hcs
   simp only[if_true] at hmm
   subst hmm
   injection hx with h1 h2
   subst h1
   simp only[Rows.uptoBulk] at hw
   have l1:=bulk_len ((List.range len).map D)
   have l2:=bulk_len ((List.range (m - len)).map fun i=>D (len+i))
   refine⟨by simp only[List.length_map,List.length_range] at l1 l2;omega,fun i hi'=>?_⟩
   obtain⟨cs',hc,htr⟩:=hi i hi'
   refine⟨cs',hc,H,enc,n',D i,Pl i,htr,?_⟩
   by_cases hlt:i<len
   · have:=bulk_part (l:=(List.range len).map D) (List.mem_map.2 ⟨i,by simpa using hlt,rfl⟩)
     omega
   · have:=bulk_part (d:=D i) (l:=(List.range (m - len)).map fun i=>D (len+i)) (List.mem_map.2 ⟨i - len,by simp;omega,by rw[show len+(i - len)=i by omega]⟩)
     omega
theorem RdU.cap {w:World}{t e:TypeId}{a:Addr}{len cap:Nat}(h:RdU w t [.slice (some a) len cap])(ht:Tryz.prog.underlying t=some (.slice e)):cap≤1048576:=(h.slice ht).1
theorem coreU {f:FuncId}{fn:Func}{s:ChangeSpec}(up:Bool)(n:Nat)(hn:fn.params.size=n)(hvars:s.vars=[])(hrt:fn.resultTypes=#[4])
  (hread0:fn.params.toList.all (fun t=>Tryz.prog.readableRec t&&decide (t < Tryz.prog.types.size))=true)
  (hs:∀ (H:Type) (ds:List (DataW H)),ds.length=n→(s.fn H ds).results=[.lit (.bool true)]∧(s.fn H ds).args=ds∧(s.fn H ds).vars=[])
  (H:Type) (enc:TypeId×Value→H) (W:World) (base:Nat) (args:Array Value) (ds gs:List (DataW H)) (before:List MemPlace)
  (hval:∀ (j:Nat) t v,fn.params[j]? = some t→args[j]? = some v→Value.okWide Tryz.prog W .any base t v)
  (hW:DataW.Whole enc Tryz.prog fn.params.toList s.vars false W args.toList ds gs before)
  (hcond:up=true→Rows.uptoBulkAll (ds++gs)≤1048576)
  (hsz:(DataW.weightsEach Tryz.prog (fn.params.toList++s.plain.varTypes Tryz.prog) (ds++gs)).all (· ≤ reachBytes)=true)
  (walk:args.size=n→(∀ (j:Nat) t v,fn.params[j]? = some t→args[j]? = some v→RdV W t v∧(up=true→RdU W t v.cells.toList))→Calls Tryz.prog f args W fun e W'=>e=.returned (.bool true)∧Q W W') :
  Calls Tryz.prog f args W fun e W'=>∃ v,e=.returned v∧s.post enc Tryz.prog fn false true false false W args v W':=by
 have hread:∀ t∈fn.params.toList,Tryz.prog.readableRec t=true∧t < Tryz.prog.types.size:=fun t ht=>by
  have:=List.all_eq_true.1 hread0 t ht
  simpa using this
 have hW':=hW
 have hlt:∀ x∈before,x.block<W.heap.size:=fun x hx=>by simpa using hW.lt x hx
 obtain⟨p,q,hA,hV,rfl,hfz,hnd⟩:=hW
 rw[hvars] at hV
 obtain⟨rfl,rfl⟩:=trodVars_none hV
 obtain⟨e1,e2,h3⟩:=trodAll_len _ _ _ _ hA
 have hps:fn.params.toList.length=n:=by simpa using hn
 have hds:ds.length=n:=by omega
 have hsz2:∀ x∈DataW.weightsEach Tryz.prog (fn.params.toList++s.plain.varTypes Tryz.prog) (ds++[]),x≤140737488351232:=fun x hx=>by
  have:=List.all_eq_true.1 hsz x hx
  simpa [reachBytes] using of_decide_eq_true this
 refine(walk (by rw[←hps,←e1];simp) (fun j t v hj hv=>?_)).mono fun e W' ⟨he,hg⟩=>?_
 · obtain⟨d,p',hd,fuel,htr⟩:=h3 j t v (by simpa using hj) (by simpa using hv)
   have hjl:j<n:=by
    have:=(Array.getElem?_eq_some_iff.1 hj).1;omega
   refine⟨⟨⟨base,hval j t v hj hv⟩,H,enc,fuel,d,p',htr,fun x hx=>hsz2 x (DataW.weights_mem_each (j:=j) (t:=t) (d:=d) ?_ (by simpa using hd) x hx)⟩,fun hup=>⟨H,enc,fuel,d,p',htr,?_⟩⟩
   · rw[List.getElem?_append_left (by omega)]
     simpa using hj
   · have h1:=hcond hup
     have h2:=bulk_part (d:=d) (l:=ds++[]) (List.mem_append_left _ (List.mem_of_getElem? hd))
     omega
 · subst he
   simp only[List.append_nil] at hW' hlt
   obtain⟨a1,a2,a3⟩:=hs H ds hds
   refine⟨_,rfl,ds,[],p,[],p,[],hW',?_,?_,?_,hg.below.frame _,fun h=>by cases h⟩
   · rw[List.append_nil,a1,hrt]
     exact trodAll_mk1 (shut_bool Tryz.underlying4 _)
   · rw[List.append_nil,a2]
     exact trodAll_keep hg _ _ _ _ hread hA hlt
   · rw[List.append_nil,a3,hvars]
     rfl
end
section
open Go.ChangeShapes Go.WideShapes Go.ChangeAt Go.RowKit
theorem framedC {f:FuncId}{fn:Func}{s:ChangeSpec}(up:Bool)(laid:List (String×DataW Unit))(n:Nat)(hn:fn.params.size=n)(hvars:s.vars=[])(hrt:fn.resultTypes=#[4])
  (hread0:fn.params.toList.all (fun t=>Tryz.prog.readableRec t&&decide (t < Tryz.prog.types.size))=true)
  (hs:∀ (H:Type) (ds:List (DataW H)),ds.length=n→(s.fn H ds).results=[.lit (.bool true)]∧(s.fn H ds).args=ds∧(s.fn H ds).vars=[])
  (walk:∀ (W:World) (args:Array Value),args.size=n→(∀ (j:Nat) t v,fn.params[j]? = some t→args[j]? = some v→RdV W t v∧(up=true→RdU W t v.cells.toList))→laidMetH Tryz.prog laid W→Calls Tryz.prog f args W fun e W'=>e=.returned (.bool true)∧Q W W')
  (H:Type) (enc:TypeId×Value→H) (W:World) (base:Nat) (args:Array Value) (ds gs:List (DataW H)) (before:List MemPlace)
  (hval:∀ (j:Nat) t v,fn.params[j]? = some t→args[j]? = some v→Value.okWide Tryz.prog W .any base t v)
  (hW:DataW.Whole enc Tryz.prog fn.params.toList s.vars false W args.toList ds gs before)
  (hcond:up=true→Rows.uptoBulkAll (ds++gs)≤1048576)
  (hsz:(DataW.weightsEach Tryz.prog (fn.params.toList++s.plain.varTypes Tryz.prog) (ds++gs)).all (· ≤ reachBytes)=true)
  (hL:laidMetH Tryz.prog laid W) :
  Calls Tryz.prog f args W fun e W'=>∃ v,e=.returned v∧s.post enc Tryz.prog fn false true false false W args v W':=
 coreU up n hn hvars hrt hread0 hs H enc W base args ds gs before hval hW hcond hsz fun h1 h2=>walk W args h1 h2 hL
end
section
open Go.ChangeShapes Go.WideShapes Go.ChangeAt Go.RowKit
theorem gPow:Tryz.prog.globalNamed "internal/strconv.uint64pow10" = some 3:=by kernel_rfl
theorem gPowType:(Tryz.prog.globals[3]?).map (·.type)=some 272 := by kernel_rfl
theorem gPowCells:Tryz.prog.cellsOf 272 = 20:=by kernel_rfl
theorem gPowElem:Tryz.prog.cellsOf 96 = 1:=by kernel_rfl
end
section
open Go.ChangeShapes Go.WideShapes Go.ChangeAt Go.RowKit
theorem kvRt:(Tryz.prog.cutTypes.find? (·.1 == "internal/reflectlite.rtype")).map (·.2)=some 230 := by kernel_rfl
theorem kvEt:Tryz.prog.globalNamed "errors.errorType" = some 2:=by kernel_rfl
theorem kvOneRow:((List.range Tryz.prog.types.size).filter fun t=>Tryz.prog.rowNamed t [101,114,114,111,114])=[77]:=by kernel_rfl
theorem errT_laid {l:List (String×DataW Unit)}{W:World}(hm:("errors.errorType",Rows.laid_errors_errorType)∈l)(h:laidMetH Tryz.prog l W):ErrT W:=by
 have h2:=(laidMetH_iff.1 h).2 ("errors.errorType",Rows.laid_errors_errorType) (List.mem_filter.2 ⟨hm,by kernel_rfl⟩)
 obtain⟨name,u,ty,e1,e2,e3,e4,e5⟩:=h2
 have en:name=[101,114,114,111,114]:=(Option.some.inj e1).symm
 subst en
 obtain rfl:=Option.some.inj (kvRt.symm.trans e2)
 have hm:ty∈(List.range Tryz.prog.types.size).filter fun t=>Tryz.prog.rowNamed t [101,114,114,111,114]:=List.mem_filter.2 ⟨List.mem_range.2 e3,e4⟩
 rw[kvOneRow] at hm
 obtain rfl:=List.mem_singleton.1 hm
 have hh:typeHandle Tryz.prog 77 = .pointer (some ⟨8, 77,none⟩):=by kernel_rfl
 rw[hh] at e5
 have:=World.var?_cell kvEt e5 0
 simpa [ErrT] using this
theorem kvGd:Tryz.prog.globalNamed "stanchion/kv.errDead" = some 0:=by kernel_rfl
theorem kvGdT:(Tryz.prog.globals[0]?).map (·.type)=some 77 := by kernel_rfl
theorem kvGr:Tryz.prog.globalNamed "stanchion/kv.errRefused" = some 1:=by kernel_rfl
theorem kvGrT:(Tryz.prog.globals[1]?).map (·.type)=some 77 := by kernel_rfl
theorem kvStar : "*" ++ "errors.errorString" = "*errors.errorString" := by decide
theorem kvRow (u:TypeId)(h:Tryz.prog.typeName? 3 u=some "*errors.errorString"):u = 322 :=
 typeName_ptr_named (nm := "errors.errorString") (by rw[kvStar];kernel_rfl) (by kernel_rfl) (by decide) u (by rw[kvStar];exact h)
theorem kvCells:Tryz.prog.cellsOf 324 = 1:=by kernel_rfl
theorem kvCellsS:Tryz.prog.cellsOf 9 = 1:=by kernel_rfl
theorem sen_laid {r:List (String×DataW Unit)}{W:World}(h:laidMet Tryz.prog (("stanchion/kv.errDead",Rows.laid_stanchion_kv_errDead) :: ("stanchion/kv.errRefused",Rows.laid_stanchion_kv_errRefused) :: r) W):∃ a b,Sen W a b:=by
 obtain⟨a0,a1,s0,s1,c0,c1,t0,t1,v0,v1,_,_,_,_,_,_,hne,h0,h1⟩:=laid_sentinels2 h kvGd kvGdT kvGr kvGrT Tryz.underlying77 kvRow Tryz.underlying322 Tryz.underlying324 rfl rfl Tryz.underlying9 kvCells kvCellsS
 refine⟨a0,a1,?_,?_,hne,⟨c0,t0,h0⟩,c1,t1,h1⟩
 · simpa using World.var?_cell kvGd v0 0
 · simpa using World.var?_cell kvGr v1 0
abbrev kvList:List (String×DataW Unit):=[("math/bits.deBruijn32tab",Rows.laid_math_bits_deBruijn32tab),("math/bits.deBruijn64tab",Rows.laid_math_bits_deBruijn64tab),("internal/strconv.uint64pow10",Rows.laid_internal_strconv_uint64pow10),("errors.errorType",Rows.laid_errors_errorType),("stanchion/kv.errDead",Rows.laid_stanchion_kv_errDead),("stanchion/kv.errRefused",Rows.laid_stanchion_kv_errRefused)]
theorem kvListF:(kvList.filter fun x=>x.2.handleName?.isNone)=[("math/bits.deBruijn32tab",Rows.laid_math_bits_deBruijn32tab),("math/bits.deBruijn64tab",Rows.laid_math_bits_deBruijn64tab),("internal/strconv.uint64pow10",Rows.laid_internal_strconv_uint64pow10),("stanchion/kv.errDead",Rows.laid_stanchion_kv_errDead),("stanchion/kv.errRefused",Rows.laid_stanchion_kv_errRefused)]:=by rfl
theorem kt_laid {W:World}(h:laidMetH Tryz.prog kvList W):∃ a b,Kt W a b:=by
 have h1:=(laidMetH_iff.1 h).1
 rw[kvListF] at h1
 have h3:=laidMet.tail (laidMet.tail h1)
 have hT:Tab W:=by
  have h2:laidMet Tryz.prog (("internal/strconv.uint64pow10",Lib.tabData .u64 Lib.pow10Tab) :: [("stanchion/kv.errDead",Rows.laid_stanchion_kv_errDead),("stanchion/kv.errRefused",Rows.laid_stanchion_kv_errRefused)]) W:=h3
  exact Lib.tabIs_of_head gPow gPowType Tryz.underlying272 Tryz.underlying96 gPowElem gPowCells h2
 obtain⟨a,b,hS⟩:=sen_laid (laidMet.tail h3)
 exact⟨a,b,hT,errT_laid (by simp) h,hS⟩
end
section
open Go.ChangeShapes Go.WideShapes Go.RowKit Dkm
theorem rows_flat (l:List Fil):rows l=l.flatMap Fil.row:=by
 induction l with
 | nil=>rfl
 | cons f l ih=>rw[rows,ih,List.flatMap_cons]
def FilIn (f:Fil):Prop:=f.nm.size≤140737488351232∧f.sf.size≤140737488351232∧f.wt.size≤140737488351232
theorem open_file {w:World}{cs:List Value}(h:Rd w 119 cs):∃ f:Fil,cs=f.row∧FilIn f:=by
 obtain⟨hl,hf⟩:=h.struct Tryz.underlying119
 rw[show Tryz.prog.cellsOf 119 = 3 by kernel_rfl] at hl
 match cs,hl with
 | [a,b,c],_ =>
   obtain⟨s0,e0,r0⟩:=(h.field Tryz.underlying119 0 (ty := 9) 0 1 rfl (by kernel_rfl)).string Tryz.underlying9
   obtain⟨s1,e1,r1⟩:=(h.field Tryz.underlying119 1 (ty := 9) 1 1 rfl (by kernel_rfl)).string Tryz.underlying9
   obtain⟨s2,e2,r2⟩:=(h.field Tryz.underlying119 2 (ty := 9) 2 1 rfl (by kernel_rfl)).string Tryz.underlying9
   simp at e0 e1 e2
   subst e0 e1 e2
   exact⟨⟨s0,s1,s2⟩,rfl,r0,r1,r2⟩
theorem open_files {w:World}{cs:List Value}(h:Rd w 22 cs):∃ A n c l,cs=[.slice A n c]∧Dsk w A n c l∧∀ f∈l,FilIn f:=by
 rcases h.slice Tryz.underlying22 with rfl | ⟨a,len,cap,rfl,hlc,hcm,hby,hi⟩
 · exact⟨none,0,0,[],rfl,⟨Holds.none_ _ _ _ _,fun _=>⟨rfl,rfl⟩,Nat.le_refl _,Nat.zero_le _,by omega⟩,by simp⟩
 · rw[show Tryz.prog.bytesOf 119 = 48 by kernel_rfl] at hby
   rw[show Tryz.prog.cellsOf 119 = 3 by kernel_rfl] at hi
   obtain⟨l,hl,hr⟩:=choose_list (R:=fun i (f:Fil)=>w.cells? 0 (a.add (i*3)) 3=some f.row∧FilIn f) len (fun i hlt=>by
    obtain⟨cs',hc,hrd⟩:=hi i (by omega)
    obtain⟨f,rfl,hf⟩:=open_file hrd
    exact⟨f,hc,hf⟩)
   refine⟨some a,len,cap,l,rfl,⟨?_,fun e=>by (cases e),hlc,hcm,by omega⟩,fun f hf=>?_⟩
   · have:=holds_flat Fil.row 3 (fun f=>rfl) w a l (fun i hi=>(hr i hi).1)
     rw[hl,←rows_flat] at this
     exact this
   · obtain⟨i,hi,rfl⟩:=List.getElem_of_mem hf
     exact(hr i hi).2
structure DkIn (w:World) (A:Option Addr) (n c:Nat) (d:Dk):Prop where
 dsk:Dsk w A n c d.fs
 fil:∀ f∈d.fs,FilIn f
 room:-9223372036854775808≤d.room∧d.room≤9223372036854775807
 fuse:-9223372036854775808≤d.fuse∧d.fuse≤9223372036854775807
theorem open_disk {w:World}{cs:List Value}(h:Rd w 24 cs):∃ A n c d,cs=[.slice A n c,.int .i64 d.room,.int .i64 d.fuse,.bool d.off]∧DkIn w A n c d:=by
 obtain⟨hl,hf⟩:=h.struct Tryz.underlying24
 rw[show Tryz.prog.cellsOf 24 = 4 by kernel_rfl] at hl
 match cs,hl with
 | [x,y,z,u],_ =>
   obtain⟨A,n,c,l,e0,hd,hi⟩:=open_files (h.field Tryz.underlying24 0 (ty := 22) 0 1 rfl (by kernel_rfl))
   obtain⟨r,e1,hr⟩:=(h.field Tryz.underlying24 1 (ty := 3) 1 1 rfl (by kernel_rfl)).int Tryz.underlying3
   obtain⟨s,e2,hs⟩:=(h.field Tryz.underlying24 2 (ty := 3) 2 1 rfl (by kernel_rfl)).int Tryz.underlying3
   obtain⟨b,e3⟩:=(h.field Tryz.underlying24 3 (ty := 4) 3 1 rfl (by kernel_rfl)).bool Tryz.underlying4
   simp at e0 e1 e2 e3
   subst e0 e1 e2 e3
   exact⟨A,n,c,⟨l,r,s,b⟩,rfl,hd,hi,wf_i64 hr,wf_i64 hs⟩
end
section
open Go.ChangeShapes Go.WideShapes Go.RowKit Dkm Prm Km Wm
end
section
open Go.RowKit Prm
theorem refSameS_any (A B C D:Option Addr)(n c m d p q r s:Nat)(x y:Bm.Sta)(w:World)(h1:In_ pairK w A n c x.data)(h2:In_ pairK w B m d x.toks)(h3:In_ pairK w C p q y.data)(h4:In_ pairK w D r s y.toks) :
  Calls Tryz.prog 28 #[staV A n c B m d,staV C p q D r s] w fun e w'=>e=.returned (.bool (decide (x=y)))∧Q w w':=by
 obtain⟨xd,xt⟩:=x
 obtain⟨yd,yt⟩:=y
 simp only at h1 h2 h3 h4
 have KD:=hid (fun W z=>refSame_any A C n c p q xd yd W (h1.lst.q z) (h3.lst.q z) h1.max h3.max)
 have KT:=hid (fun W z=>refSame_any B D m d r s xt yt W (h2.lst.q z) (h4.lst.q z) h2.max h4.max)
 have hE:decide (Bm.Sta.mk xd xt=⟨yd,yt⟩)=(decide (xd=yd)&&decide (xt=yt)):=by
  by_cases e1:xd=yd<;>by_cases e2:xt=yt<;>simp[e1,e2]
 have HE:=hid hE
 clear h1 h2 h3 h4 hE
 generalize decide (Bm.Sta.mk xd xt=⟨yd,yt⟩)=R at HE ⊢
 generalize decide (xd=yd)=r1 at KD HE
 generalize decide (xt=yt)=r2 at KT HE
 go_enter Tryz.func28,Tryz.ntmps28
 go_upto_region 1 with (fail)
 have X:Hid (Bx ((w.alloc (.cells #[.slice A n c,.slice B m d] 30)).alloc (.cells #[.slice C p q,.slice D r s] 30)) w.heap.size [.slice A n c,.slice B m d] ∧
     Bx ((w.alloc (.cells #[.slice A n c,.slice B m d] 30)).alloc (.cells #[.slice C p q,.slice D r s] 30)) (w.heap.size+1) [.slice C p q,.slice D r s] ∧
     Q w ((w.alloc (.cells #[.slice A n c,.slice B m d] 30)).alloc (.cells #[.slice C p q,.slice D r s] 30))):=by
   refine hid ⟨(Bx.new w [.slice A n c,.slice B m d] 30).alloc _,?_,((Q.refl w).alloc _).alloc _⟩
   have:=Bx.new (w.alloc (.cells #[.slice A n c,.slice B m d] 30)) [.slice C p q,.slice D r s] 30
   simpa using this
 generalize ((w.alloc (.cells #[.slice A n c,.slice B m d] 30)).alloc (.cells #[.slice C p q,.slice D r s] 30))=w2 at X ⊢
 obtain⟨c0,c1⟩:=X.out.1.get2.1
 obtain⟨d0,d1⟩:=X.out.2.1.get2.1
 cases r1 with
 | false =>
   go_wp2_with fail
   refine(KD.out _ X.out.2.2).mono ?_
   rintro e w3 ⟨rfl,y3⟩
   have Y3:=hid (X.out.2.2.trans y3)
   clear y3
   go_wp2_with fail
   go_ret
   exact⟨ret_bool (by rw[HE.out];rfl),Y3.out⟩
 | true =>
   go_wp2_with fail
   refine(KD.out _ X.out.2.2).mono ?_
   rintro e w3 ⟨rfl,y3⟩
   have Y3:=hid (And.intro (X.out.2.2.trans y3) (And.intro (X.out.1.q y3) (X.out.2.1.q y3)))
   clear y3 c0 c1 d0 d1
   obtain⟨c0,c1⟩:=Y3.out.2.1.get2.1
   obtain⟨d0,d1⟩:=Y3.out.2.2.get2.1
   go_wp2_with fail
   refine(KT.out _ Y3.out.1).mono ?_
   rintro e w4 ⟨rfl,y4⟩
   have Y4:=hid (Y3.out.1.trans y4)
   clear y4
   cases r2
   all_goals
     go_wp2_with fail
     go_ret
     exact⟨ret_bool (by rw[HE.out];rfl),Y4.out⟩
end
end Go.Proofs.YtccoknaaofmbcaaGreatDoor
