/- RunBytes, KvCheck: merged. -/
import Derived.Test.YtajidconlmhjfaaGreatDoorR5
import Derived.Test.YtajidconlmhjfaaGreatDoorR7
import Derived.Test.YtajidconlmhjfaaGreatDoorR11
import Derived.Test.YtajidconlmhjfaaGreatDoorR13
import Derived.Test.YtajidconlmhjfaaGreatDoorR4
set_option linter.unusedVariables false
set_option linter.unusedSimpArgs false
set_option maxRecDepth 100000
namespace Go.Proofs.YtajidconlmhjfaaGreatDoor
section
open Go.RowKit Prm
namespace Rn
def bytesM (l:List Pr):List UInt8×Int:=if may l then (bytes l,0) else ([],1)
theorem flat_len:∀ (l:List Pr),(∀ p∈l,p.key.size≤65536∧p.val.size≤65536)→(flat l).length≤l.length*131114
  | [],_=>by simp [flat]
  | p :: m,hm=>by
    have h1:=hm p (by simp)
    have h2:=flat_len m fun q hq=>hm q (by simp [hq])
    have h3:=Dm.num_length p.key.size (by omega)
    have h4:=Dm.num_length p.val.size (by omega)
    simp only [flat,one,ptx,List.length_append,List.length_cons,size_data,Nat.add_mul]
    omega
theorem ptx_eq (s:ByteArray):Dm.num s.size++s.data.toList=ptx s:=by unfold ptx;rw [size_data]
end Rn
set_option maxHeartbeats 4000000 in
theorem bytes_any (A:Option Addr) (n c:Nat) (l:List Pr) (w:World) (hf:Lst pairK w A n l) (hn:n≤536870912) :
    Calls Tryz.prog 102 #[.slice A n c] w fun e w'=>e=.returned (.tuple #[.string ⟨(Rn.bytesM l).1.toArray⟩,.int .i64 (Rn.bytesM l).2])∧Q w w':=by
  have KM:=Lib.hid (mayBe_any A n c l w hf (by unfold maxLen;omega))
  have HF:=Lib.hid hf
  have hlen:=hf.len
  cases hm:Rn.may l with
  | false =>
    rw [hm] at KM
    have HR:=Lib.hid (show Rn.bytesM l=([],1) by unfold Rn.bytesM;rw [hm];rfl)
    clear hf hm hlen
    go_enter Tryz.func102,Tryz.ntmps102
    go_wp2_with fail
    refine KM.out.mono ?_
    rintro e w1 ⟨rfl,q1⟩
    go_wp2_with fail
    go_ret2
    exact ⟨by rw [HR.out];rfl,q1⟩
  | true =>
    rw [hm] at KM
    have HR:=Lib.hid (show Rn.bytesM l=(Rn.bytes l,0) by unfold Rn.bytesM;rw [hm];rfl)
    have HB:=Lib.hid (Rn.may_big hm)
    have HL:=Lib.hid hlen
    have HN:=Lib.hid (Dm.num_length n (by omega))
    have HTot:=Lib.hid (show ∀ k,k≤n→(Dm.num n++Rn.flat (l.take k)).length≤21+k*131114 from fun k hk=>by
     have h1:=Rn.flat_len (l.take k) fun p hp=>HB.out p (List.mem_of_mem_take hp)
     rw [List.length_take,Nat.min_eq_left (by omega)] at h1
     rw [List.length_append]
     have:=HN.out
     omega)
    have e1:0≤(n:Int):=by omega
    clear hf hm hlen
    go_enter Tryz.func102,Tryz.ntmps102
    go_wp2_with fail
    refine KM.out.mono ?_
    rintro e w1 ⟨rfl,q1⟩
    have Q1:=Lib.hid q1
    have B1:=Lib.hid (Bld.fresh w1)
    clear q1
    go_wp2_with fail
    refine (num_any _ _ (by omega) (by omega)).mono ?_
    rintro e w2 ⟨rfl,q2⟩
    have Q2:=Lib.hid q2
    clear q2
    go_wp2_with fail
    refine (write_any w1.heap.size w1.heap.size [] _ _ (B1.out.q Q2.out) (by have:=HN.out;simp [ByteArray.size];omega) (by have:=Q2.out.size;simp at this;omega)).mono ?_
    rintro e w3 ⟨rfl,b3,be3,_⟩
    have B3:=Lib.hid (show Bld w1.heap.size w1.heap.size (Dm.num n++Rn.flat (l.take 0)) w3 by simpa [Rn.flat] using b3)
    have Q3:=Lib.hid (show Below w1.heap.size w1 w3 from (((Q.refl w1).alloc _).trans Q2.out).below.trans be3)
    clear b3 be3 Q2 B1
    go_wp2
    go_loopw [17] (fun i wr=>∃ k:Nat,k≤n∧i=.int .i64 k∧Bld w1.heap.size w1.heap.size (Dm.num n++Rn.flat (l.take k)) wr∧Below w1.heap.size w1 wr) (fun i _=>n - (intOf i).toNat)
    case atStart=>exact ⟨0,Nat.zero_le _,rfl,B3.out,Q3.out⟩
    case round =>
     obtain ⟨k,hk,rfl,b4,be4⟩:=hrel
     have B4:=Lib.hid b4
     have Q4:=Lib.hid (show Q w1 wr from be4)
     clear b4 be4 B3 Q3
     by_cases hlt:k<n
     · have hkl:k<l.length:=by have:=HL.out;omega
       have hbk:=HB.out l[k] (List.getElem_mem hkl)
       have ht0:=HTot.out k (by omega)
       have HS:=Lib.hid (Rn.flat_snoc l hkl)
       obtain ⟨ad,rfl,hab,x0,x1⟩:=load_pair (HF.out.q (Q1.out.trans Q4.out)) hlt hkl
       have hkn:(k:Int)<(n:Int):=by omega
       generalize hx:l[k]=x at x0 x1 hbk HS
       have HX:=Lib.hid hx
       clear hx
       have hk1:=Dm.num_length x.key.size (by omega)
       have hk2:=Dm.num_length x.val.size (by omega)
       generalize hacc:Dm.num n++Rn.flat (l.take k)=acc at B4 ht0
       have HAcc:=Lib.hid hacc
       clear hacc
       have KT1:=Lib.hid (fun W=>text_any x.key W (by omega))
       have KT2:=Lib.hid (fun W=>text_any x.val W (by omega))
       have ez1:(⟨(Dm.num x.key.size++x.key.data.toList).toArray⟩:ByteArray).size≤65600:=by
        show (Dm.num x.key.size++x.key.data.toList).toArray.size≤_
        rw [List.size_toArray,List.length_append,Rn.size_data];omega
       have ez2:(⟨(Dm.num x.val.size++x.val.data.toList).toArray⟩:ByteArray).size≤65600:=by
        show (Dm.num x.val.size++x.val.data.toList).toArray.size≤_
        rw [List.size_toArray,List.length_append,Rn.size_data];omega
       generalize hs1:(⟨(Dm.num x.key.size++x.key.data.toList).toArray⟩:ByteArray)=s1 at KT1 ez1
       generalize hs2:(⟨(Dm.num x.val.size++x.val.data.toList).toArray⟩:ByteArray)=s2 at KT2 ez2
       have HS1:=Lib.hid (show s1.data.toList=Rn.ptx x.key by rw [←hs1,←Rn.ptx_eq])
       have HS2:=Lib.hid (show s2.data.toList=Rn.ptx x.val by rw [←hs2,←Rn.ptx_eq])
       have HE1:=Lib.hid ez1
       have HE2:=Lib.hid ez2
       have HT0:=Lib.hid ht0
       clear hs1 hs2 hk1 hk2 hbk ez1 ez2 ht0
       go_wp2_with fail
       refine (KT1.out _).mono ?_
       rintro e w5 ⟨rfl,q5⟩
       have Q5:=Lib.hid (((Q.refl wr).alloc (.cells #[.string x.key,.string x.val] 83)).trans q5)
       have Y1:=Lib.hid (show w5.heap[wr.heap.size]? = some (.cells #[.string x.key,.string x.val] 83 (0,0)) from (q5.below.block _ (by simp)).trans (heap_alloc_new wr _))
       clear q5
       go_wp2_with fail
       refine (write_any w1.heap.size w1.heap.size acc s1 _ (B4.out.q Q5.out) (by have:=HT0.out;have:=HE1.out;omega) (by have:=Q4.out.size;have:=Q5.out.size;omega)).mono ?_
       rintro e w6 ⟨rfl,b6,be6,k6⟩
       have B6:=Lib.hid b6
       have Q6:=Lib.hid (show Q w1 w6 from (Q4.out.trans Q5.out).below.trans be6)
       have y6:=k6 _ _ _ _ Y1.out (by decide) (by have:=Q4.out.size;have:=B4.out.lt;omega)
       have z1:w6.cell? ⟨wr.heap.size,1,none⟩=some (.string x.val):=by rw [Lib.cell_of_heap y6];rfl
       clear b6 be6 k6 y6 Y1
       go_wp2_with fail
       refine (KT2.out _).mono ?_
       rintro e w7 ⟨rfl,q7⟩
       have Q7:=Lib.hid q7
       clear q7
       go_wp2_with fail
       refine (write_any w1.heap.size w1.heap.size (acc++s1.data.toList) s2 _ (B6.out.q Q7.out) (by rw [List.length_append,Rn.size_data];have:=HT0.out;have:=HE1.out;have:=HE2.out;omega) (by have:=Q6.out.size;have:=Q7.out.size;omega)).mono ?_
       rintro e w8 ⟨rfl,b8,be8,_⟩
       have B8:=Lib.hid (show Bld w1.heap.size w1.heap.size (Dm.num n++Rn.flat (l.take (k+1))) w8 by
        rw [HS.out,←List.append_assoc,HAcc.out,Rn.one,←List.append_assoc,←HS1.out,←HS2.out];exact b8)
       have Q8:=Lib.hid (show Below w1.heap.size w1 w8 from (Q6.out.trans Q7.out).below.trans be8)
       clear b8 be8
       go_wp2
       go_roundw
       case rel=>exact ⟨k+1,by omega,by go_num,B8.out,Q8.out⟩
       case measure=>simp [intOf];omega
     · have hkn:k=n:=by omega
       have hbody:=HTot.out n (Nat.le_refl _)
       have hfull:Dm.num n++Rn.flat (l.take k)=Rn.body l:=by
        unfold Rn.body
        rw [HL.out,hkn,List.take_of_length_le (by rw [HL.out];exact Nat.le_refl _)]
       have hfull2:Dm.num n++Rn.flat (l.take n)=Rn.body l:=by
        unfold Rn.body
        rw [HL.out,List.take_of_length_le (by rw [HL.out];exact Nat.le_refl _)]
       rw [hfull2] at hbody
       rw [hfull] at B4
       have HBody:=Lib.hid hbody
       clear hfull hfull2 hbody hkn
       generalize hbo:Rn.body l=bo at B4 HBody
       have HBo:=Lib.hid hbo
       clear hbo
       go_wp2_with fail
       refine (string_any w1.heap.size w1.heap.size bo _ B4.out Q4.out.size).mono ?_
       rintro e w5 ⟨rfl,be5⟩
       have Q5:=Lib.hid (show Q w1 w5 from Q4.out.below.trans be5)
       clear be5
       go_wp2_with fail
       refine (seal_any ⟨bo.toArray⟩ _ (by show bo.toArray.size≤_;have:=HBody.out;simp;omega)).mono ?_
       rintro e w6 ⟨rfl,q6⟩
       go_wp2_with fail
       go_ret2
       exact ⟨by rw [HR.out,Rn.bytes,HBo.out];rfl,Q1.out.trans (Q5.out.trans q6)⟩
end
section
open Go.RowKit Dkm Prm Km Wm
structure Ke (w:World) (p:Kp) (x:Ks) (g:Nat) (pe:Kp) (xe:Ks) (wi:World):Prop where
  kc:Kc w (w.heap.size+1) p x wi
  eb:Bx wi g (kL pe xe)
  gt:w.heap.size+1<g
section
variable {w wi wj:World} {p pe:Kp} {x xe:Ks} {g:Nat}
theorem Ke.step (h:Ke w p x g pe xe wi) (q:Q wi wj):Ke w p x g pe xe wj:=⟨h.kc.step q,h.eb.q q,h.gt⟩
theorem Ke.new (h:Kc w (w.heap.size+1) p x wi):Ke w p x wi.heap.size p x (wi.alloc (.cells (kL p x).toArray 32)):=
  ⟨h.step ((Q.refl wi).alloc _),Bx.new wi (kL p x) 32,h.l⟩
theorem Ke.disk (h:Ke w p x g pe xe wi) {A2:Option Addr} {n2 c2:Nat} {d2:Dk} (hd:Dsk wi A2 n2 c2 d2.fs) :
    Ke w ⟨A2,n2,c2,p.B,p.bn,p.bc,p.C,p.cn,p.cc⟩ ⟨d2,x.frm,x.seg,x.run,x.s,x.down⟩ g pe xe ((((wi.setCell ⟨w.heap.size,0,none⟩ (.slice A2 n2 c2)).setCell ⟨w.heap.size,1,none⟩ (.int .i64 d2.room)).setCell ⟨w.heap.size,2,none⟩ (.int .i64 d2.fuse)).setCell ⟨w.heap.size,3,none⟩ (.bool d2.off)):=
  ⟨h.kc.disk hd,h.eb.far_stk (by have:=h.gt;omega) [(0,.slice A2 n2 c2),(1,.int .i64 d2.room),(2,.int .i64 d2.fuse),(3,.bool d2.off)],h.gt⟩
theorem Kc.marks {r:Nat} (h:Kc w r p x wi) (f s n:Int):Kc w r p ⟨x.d,f,s,n,x.s,x.down⟩ (((wi.setCell ⟨w.heap.size,4,none⟩ (.int .i64 f)).setCell ⟨w.heap.size,5,none⟩ (.int .i64 s)).setCell ⟨w.heap.size,6,none⟩ (.int .i64 n)):=by
 have hok:∀ u∈[(4,Value.int .i64 f),(5,Value.int .i64 s),(6,Value.int .i64 n)],u.1<(kL p x).length∧NT u.2:=by
  intro u hu
  simp only [List.mem_cons,List.not_mem_nil,or_false] at hu
  rcases hu with rfl | rfl | rfl<;>exact ⟨by simp [kL],fun s e=>by cases e⟩
 have h1:=bx_stk _ h.kb.box (fun u hu=>(hok u hu).1)
 have h2:=h.kb.is.stk h.kb.box (kL_nt _ _) _ hok
 exact ⟨⟨h1,h2.dsk,h2.data,h2.toks⟩,h.res.far_stk (by have:=h.lt;omega) [(4,Value.int .i64 f),(5,Value.int .i64 s),(6,Value.int .i64 n)],Q.stk (Nat.le_refl _) [(4,Value.int .i64 f),(5,Value.int .i64 s),(6,Value.int .i64 n)] h.q,h.lt⟩
theorem Ke.marks (h:Ke w p x g pe xe wi) (f s n:Int):Ke w p ⟨x.d,f,s,n,x.s,x.down⟩ g pe xe (((wi.setCell ⟨w.heap.size,4,none⟩ (.int .i64 f)).setCell ⟨w.heap.size,5,none⟩ (.int .i64 s)).setCell ⟨w.heap.size,6,none⟩ (.int .i64 n)):=
  ⟨h.kc.marks f s n,h.eb.far_stk (by have:=h.gt;omega) [(4,Value.int .i64 f),(5,Value.int .i64 s),(6,Value.int .i64 n)],h.gt⟩
end
set_option maxHeartbeats 8000000 in
theorem check_down {A:Option Addr} {n c:Nat} {B:Option Addr} {bn bc:Nat} {C:Option Addr} {cn cc:Nat} {l:List Fil} {room fuse:Int} {off:Bool} {frm seg run:Int} {s:Bm.Sta} (w:World) (a b:Addr) (HK:Hid (Kr w ⟨A,n,c,B,bn,bc,C,cn,cc⟩ ⟨⟨l,room,fuse,off⟩,frm,seg,run,s,true⟩)) (KW:Hid (∀ (e:Int) W,Q w W→Calls Tryz.prog 74 #[.int .i64 e] W fun ev w'=>ev=.returned (errV a b e)∧Q W w')) (y:Ks×Int) (HR:Hid (y=(⟨⟨l,room,fuse,off⟩,frm,seg,run,s,true⟩,6))) :
    Calls Tryz.prog 57 #[kvV ⟨A,n,c,B,bn,bc,C,cn,cc⟩ ⟨⟨l,room,fuse,off⟩,frm,seg,run,s,true⟩] w (RetE w a b y):=by
  obtain ⟨T,u,hve⟩:∃ T u,Value.iface T u=errV a b 6:=errV_is a b (by decide)
  have KV:Hid (∀ W,Q w W→Calls Tryz.prog 74 #[.int .i64 6] W fun ev w'=>ev=.returned (.iface T u)∧Q W w'):=Lib.hid (fun W q=>by rw [hve];exact KW.out 6 W q)
  have HV:=Lib.hid hve
  clear hve KW
  have Z:Hid (Kc w (w.heap.size+1) ⟨A,n,c,B,bn,bc,C,cn,cc⟩ ⟨⟨l,room,fuse,off⟩,frm,seg,run,s,true⟩ ((w.alloc (.cells #[.slice A n c,.int .i64 room,.int .i64 fuse,.bool off,.int .i64 frm,.int .i64 seg,.int .i64 run,.slice B bn bc,.slice C cn cc,.bool true] 32)).alloc (.cells #[.slice none 0 0,.int .i64 0,.int .i64 0,.bool false,.int .i64 0,.int .i64 0,.int .i64 0,.slice none 0 0,.slice none 0 0,.bool false] 32))):=Lib.hid (Kc.two HK.out)
  go_enter Tryz.func57,Tryz.ntmps57
  go_upto_region 1 with (fail)
  generalize ((w.alloc (.cells #[.slice A n c,.int .i64 room,.int .i64 fuse,.bool off,.int .i64 frm,.int .i64 seg,.int .i64 run,.slice B bn bc,.slice C cn cc,.bool true] 32)).alloc (.cells #[.slice none 0 0,.int .i64 0,.int .i64 0,.bool false,.int .i64 0,.int .i64 0,.int .i64 0,.slice none 0 0,.slice none 0 0,.bool false] 32))=W at Z ⊢
  clear HK
  obtain ⟨e0,e1,e2,e3,e4,e5,e6,e7,e8,e9⟩:=kget Z.out.kb.box
  obtain ⟨f0,f1,f2,f3,f4,f5,f6,f7,f8,f9⟩:=kfree Z.out.kb.box
  have Y:=Lib.hid Z.out
  clear Z
  go_upto_region 2 with (fail)
  refine wp_region_held_drew (S:=fun w'=>Bx w' w.heap.size (kL ⟨A,n,c,B,bn,bc,C,cn,cc⟩ ⟨⟨l,room,fuse,off⟩,frm,seg,run,s,true⟩)) (by kernel_rfl) ?szz0 (fun hHeld=>?rzz0)
  case szz0 =>
   exact Y.out.kb.box.drew
  refine takeH 0 ?v1 ?y1 ?_
  case y1=>intro w hSw;obtain ⟨s0,s1,s2,s3,s4,s5,s6,s7,s8,s9⟩:=kget hSw;go_simp;try with_reducible rfl
  refine oneH 1 (fun K hK=>?_)
  go_simp
  refine (KV.out _ (Y.out.q.trans (Q.refl _).drew)).mono ?_
  rintro e w4 ⟨rfl,q4⟩
  have V:=Lib.hid (Y.out.step ((Q.refl _).drew.trans q4))
  have F:Hid (RetE w a b (⟨⟨l,room,fuse,off⟩,frm,seg,run,s,true⟩,6) (.returned (.tuple #[kvV ⟨A,n,c,B,bn,bc,C,cn,cc⟩ ⟨⟨l,room,fuse,off⟩,frm,seg,run,s,true⟩,.iface T u])) ((((((((((w4.setCell ⟨w.heap.size+1,0,none⟩ (.slice A n c)).setCell ⟨w.heap.size+1,1,none⟩ (.int .i64 room)).setCell ⟨w.heap.size+1,2,none⟩ (.int .i64 fuse)).setCell ⟨w.heap.size+1,3,none⟩ (.bool off)).setCell ⟨w.heap.size+1,4,none⟩ (.int .i64 frm)).setCell ⟨w.heap.size+1,5,none⟩ (.int .i64 seg)).setCell ⟨w.heap.size+1,6,none⟩ (.int .i64 run)).setCell ⟨w.heap.size+1,7,none⟩ (.slice B bn bc)).setCell ⟨w.heap.size+1,8,none⟩ (.slice C cn cc)).setCell ⟨w.heap.size+1,9,none⟩ (.bool true))):=Lib.hid (by rw [HV.out];exact V.out.finE V.out.kb.is a b 6)
  have R:Hid (Bx ((((((((((w4.setCell ⟨w.heap.size+1,0,none⟩ (.slice A n c)).setCell ⟨w.heap.size+1,1,none⟩ (.int .i64 room)).setCell ⟨w.heap.size+1,2,none⟩ (.int .i64 fuse)).setCell ⟨w.heap.size+1,3,none⟩ (.bool off)).setCell ⟨w.heap.size+1,4,none⟩ (.int .i64 frm)).setCell ⟨w.heap.size+1,5,none⟩ (.int .i64 seg)).setCell ⟨w.heap.size+1,6,none⟩ (.int .i64 run)).setCell ⟨w.heap.size+1,7,none⟩ (.slice B bn bc)).setCell ⟨w.heap.size+1,8,none⟩ (.slice C cn cc)).setCell ⟨w.heap.size+1,9,none⟩ (.bool true)) (w.heap.size+1) (kL ⟨A,n,c,B,bn,bc,C,cn,cc⟩ ⟨⟨l,room,fuse,off⟩,frm,seg,run,s,true⟩)):=Lib.hid (V.out.boxR ⟨A,n,c,B,bn,bc,C,cn,cc⟩ ⟨⟨l,room,fuse,off⟩,frm,seg,run,s,true⟩)
  have U:Hid (Bx ((((((((((w4.setCell ⟨w.heap.size+1,0,none⟩ (.slice A n c)).setCell ⟨w.heap.size+1,1,none⟩ (.int .i64 room)).setCell ⟨w.heap.size+1,2,none⟩ (.int .i64 fuse)).setCell ⟨w.heap.size+1,3,none⟩ (.bool off)).setCell ⟨w.heap.size+1,4,none⟩ (.int .i64 frm)).setCell ⟨w.heap.size+1,5,none⟩ (.int .i64 seg)).setCell ⟨w.heap.size+1,6,none⟩ (.int .i64 run)).setCell ⟨w.heap.size+1,7,none⟩ (.slice B bn bc)).setCell ⟨w.heap.size+1,8,none⟩ (.slice C cn cc)).setCell ⟨w.heap.size+1,9,none⟩ (.bool true)) w.heap.size (kL ⟨A,n,c,B,bn,bc,C,cn,cc⟩ ⟨⟨l,room,fuse,off⟩,frm,seg,run,s,true⟩)):=Lib.hid (V.out.kb.box.far_stk (by have:=V.out.lt;omega) (us10 ⟨A,n,c,B,bn,bc,C,cn,cc⟩ ⟨⟨l,room,fuse,off⟩,frm,seg,run,s,true⟩))
  go_wp2_with fail
  refine hK.out _ _ ?Szz4 (fun hHeld=>?_)
  case Szz4 =>
   exact V.out.kb.box
  clear hK K
  try simp only [Act.put,sA,sB,sC]
  refine oneH 2 (fun K hK=>?_)
  obtain ⟨g0,g1,g2,g3,g4,g5,g6,g7,g8,g9⟩:=kfree V.out.res
  obtain ⟨i0,i1,i2,i3,i4,i5,i6,i7,i8,i9⟩:=kget V.out.res
  go_simp
  refine hK.out _ _ ?Szz3 (fun hHeld=>?_)
  case Szz3 =>
   exact U.out
  clear hK K
  try simp only [Act.put,sA,sB,sC]
  refine tadH 3 ?_
  refine wpAnyH_done (by kernel_rfl) ?_ _
  clear V Y q4 U
  go_wp2
  (try rw [Exit.noGoto_ret])
  obtain ⟨r0,r1,r2,r3,r4,r5,r6,r7,r8,r9⟩:=kget R.out
  refine bodyPost_ret (v:=.tuple #[kvV ⟨A,n,c,B,bn,bc,C,cn,cc⟩ ⟨⟨l,room,fuse,off⟩,frm,seg,run,s,true⟩,.iface T u]) (by simp [results,Tryz.results57,go_sem,r0,r1,r2,r3,r4,r5,r6,r7,r8,r9]) rfl ?_
  rw [HR.out]
  exact F.out
set_option maxHeartbeats 8000000 in
theorem check_full_seg {A:Option Addr} {n c:Nat} {B:Option Addr} {bn bc:Nat} {C:Option Addr} {cn cc:Nat} {l:List Fil} {room fuse:Int} {off:Bool} {frm seg run:Int} {s:Bm.Sta} (w:World) (a b:Addr) (h1:1000000≤seg) (HK:Hid (Kr w ⟨A,n,c,B,bn,bc,C,cn,cc⟩ ⟨⟨l,room,fuse,off⟩,frm,seg,run,s,false⟩)) (KW:Hid (∀ (e:Int) W,Q w W→Calls Tryz.prog 74 #[.int .i64 e] W fun ev w'=>ev=.returned (errV a b e)∧Q W w')) (y:Ks×Int) (HR:Hid (y=(⟨⟨l,room,fuse,off⟩,frm,seg,run,s,false⟩,5))) :
    Calls Tryz.prog 57 #[kvV ⟨A,n,c,B,bn,bc,C,cn,cc⟩ ⟨⟨l,room,fuse,off⟩,frm,seg,run,s,false⟩] w (RetE w a b y):=by
  obtain ⟨T,u,hve⟩:∃ T u,Value.iface T u=errV a b 5:=errV_is a b (by decide)
  have KV:Hid (∀ W,Q w W→Calls Tryz.prog 74 #[.int .i64 5] W fun ev w'=>ev=.returned (.iface T u)∧Q W w'):=Lib.hid (fun W q=>by rw [hve];exact KW.out 5 W q)
  have HV:=Lib.hid hve
  clear hve KW
  have Z:Hid (Kc w (w.heap.size+1) ⟨A,n,c,B,bn,bc,C,cn,cc⟩ ⟨⟨l,room,fuse,off⟩,frm,seg,run,s,false⟩ ((w.alloc (.cells #[.slice A n c,.int .i64 room,.int .i64 fuse,.bool off,.int .i64 frm,.int .i64 seg,.int .i64 run,.slice B bn bc,.slice C cn cc,.bool false] 32)).alloc (.cells #[.slice none 0 0,.int .i64 0,.int .i64 0,.bool false,.int .i64 0,.int .i64 0,.int .i64 0,.slice none 0 0,.slice none 0 0,.bool false] 32))):=Lib.hid (Kc.two HK.out)
  go_enter Tryz.func57,Tryz.ntmps57
  go_upto_region 1 with (fail)
  generalize ((w.alloc (.cells #[.slice A n c,.int .i64 room,.int .i64 fuse,.bool off,.int .i64 frm,.int .i64 seg,.int .i64 run,.slice B bn bc,.slice C cn cc,.bool false] 32)).alloc (.cells #[.slice none 0 0,.int .i64 0,.int .i64 0,.bool false,.int .i64 0,.int .i64 0,.int .i64 0,.slice none 0 0,.slice none 0 0,.bool false] 32))=W at Z ⊢
  clear HK
  obtain ⟨e0,e1,e2,e3,e4,e5,e6,e7,e8,e9⟩:=kget Z.out.kb.box
  obtain ⟨f0,f1,f2,f3,f4,f5,f6,f7,f8,f9⟩:=kfree Z.out.kb.box
  have Y:=Lib.hid Z.out
  clear Z
  go_upto_region 5 with (fail)
  refine wp_region_held_drew (S:=fun w'=>Bx w' w.heap.size (kL ⟨A,n,c,B,bn,bc,C,cn,cc⟩ ⟨⟨l,room,fuse,off⟩,frm,seg,run,s,false⟩)) (by kernel_rfl) ?szz5 (fun hHeld=>?rzz5)
  case szz5 =>
   exact Y.out.kb.box.drew
  refine takeH 0 ?v6 ?y6 ?_
  case y6=>intro w hSw;obtain ⟨s0,s1,s2,s3,s4,s5,s6,s7,s8,s9⟩:=kget hSw;go_simp;try with_reducible rfl
  refine oneH 1 (fun K hK=>?_)
  go_simp
  refine (KV.out _ (Y.out.q.trans (Q.refl _).drew)).mono ?_
  rintro e w4 ⟨rfl,q4⟩
  have V:=Lib.hid (Y.out.step ((Q.refl _).drew.trans q4))
  have F:Hid (RetE w a b (⟨⟨l,room,fuse,off⟩,frm,seg,run,s,false⟩,5) (.returned (.tuple #[kvV ⟨A,n,c,B,bn,bc,C,cn,cc⟩ ⟨⟨l,room,fuse,off⟩,frm,seg,run,s,false⟩,.iface T u])) ((((((((((w4.setCell ⟨w.heap.size+1,0,none⟩ (.slice A n c)).setCell ⟨w.heap.size+1,1,none⟩ (.int .i64 room)).setCell ⟨w.heap.size+1,2,none⟩ (.int .i64 fuse)).setCell ⟨w.heap.size+1,3,none⟩ (.bool off)).setCell ⟨w.heap.size+1,4,none⟩ (.int .i64 frm)).setCell ⟨w.heap.size+1,5,none⟩ (.int .i64 seg)).setCell ⟨w.heap.size+1,6,none⟩ (.int .i64 run)).setCell ⟨w.heap.size+1,7,none⟩ (.slice B bn bc)).setCell ⟨w.heap.size+1,8,none⟩ (.slice C cn cc)).setCell ⟨w.heap.size+1,9,none⟩ (.bool false))):=Lib.hid (by rw [HV.out];exact V.out.finE V.out.kb.is a b 5)
  have R:Hid (Bx ((((((((((w4.setCell ⟨w.heap.size+1,0,none⟩ (.slice A n c)).setCell ⟨w.heap.size+1,1,none⟩ (.int .i64 room)).setCell ⟨w.heap.size+1,2,none⟩ (.int .i64 fuse)).setCell ⟨w.heap.size+1,3,none⟩ (.bool off)).setCell ⟨w.heap.size+1,4,none⟩ (.int .i64 frm)).setCell ⟨w.heap.size+1,5,none⟩ (.int .i64 seg)).setCell ⟨w.heap.size+1,6,none⟩ (.int .i64 run)).setCell ⟨w.heap.size+1,7,none⟩ (.slice B bn bc)).setCell ⟨w.heap.size+1,8,none⟩ (.slice C cn cc)).setCell ⟨w.heap.size+1,9,none⟩ (.bool false)) (w.heap.size+1) (kL ⟨A,n,c,B,bn,bc,C,cn,cc⟩ ⟨⟨l,room,fuse,off⟩,frm,seg,run,s,false⟩)):=Lib.hid (V.out.boxR ⟨A,n,c,B,bn,bc,C,cn,cc⟩ ⟨⟨l,room,fuse,off⟩,frm,seg,run,s,false⟩)
  have U:Hid (Bx ((((((((((w4.setCell ⟨w.heap.size+1,0,none⟩ (.slice A n c)).setCell ⟨w.heap.size+1,1,none⟩ (.int .i64 room)).setCell ⟨w.heap.size+1,2,none⟩ (.int .i64 fuse)).setCell ⟨w.heap.size+1,3,none⟩ (.bool off)).setCell ⟨w.heap.size+1,4,none⟩ (.int .i64 frm)).setCell ⟨w.heap.size+1,5,none⟩ (.int .i64 seg)).setCell ⟨w.heap.size+1,6,none⟩ (.int .i64 run)).setCell ⟨w.heap.size+1,7,none⟩ (.slice B bn bc)).setCell ⟨w.heap.size+1,8,none⟩ (.slice C cn cc)).setCell ⟨w.heap.size+1,9,none⟩ (.bool false)) w.heap.size (kL ⟨A,n,c,B,bn,bc,C,cn,cc⟩ ⟨⟨l,room,fuse,off⟩,frm,seg,run,s,false⟩)):=Lib.hid (V.out.kb.box.far_stk (by have:=V.out.lt;omega) (us10 ⟨A,n,c,B,bn,bc,C,cn,cc⟩ ⟨⟨l,room,fuse,off⟩,frm,seg,run,s,false⟩))
  go_wp2_with fail
  refine hK.out _ _ ?Szz9 (fun hHeld=>?_)
  case Szz9 =>
   exact V.out.kb.box
  clear hK K
  try simp only [Act.put,sA,sB,sC]
  refine oneH 2 (fun K hK=>?_)
  obtain ⟨g0,g1,g2,g3,g4,g5,g6,g7,g8,g9⟩:=kfree V.out.res
  obtain ⟨i0,i1,i2,i3,i4,i5,i6,i7,i8,i9⟩:=kget V.out.res
  go_simp
  refine hK.out _ _ ?Szz8 (fun hHeld=>?_)
  case Szz8 =>
   exact U.out
  clear hK K
  try simp only [Act.put,sA,sB,sC]
  refine tadH 3 ?_
  refine wpAnyH_done (by kernel_rfl) ?_ _
  clear V Y q4 U
  go_wp2
  (try rw [Exit.noGoto_ret])
  obtain ⟨r0,r1,r2,r3,r4,r5,r6,r7,r8,r9⟩:=kget R.out
  refine bodyPost_ret (v:=.tuple #[kvV ⟨A,n,c,B,bn,bc,C,cn,cc⟩ ⟨⟨l,room,fuse,off⟩,frm,seg,run,s,false⟩,.iface T u]) (by simp [results,Tryz.results57,go_sem,r0,r1,r2,r3,r4,r5,r6,r7,r8,r9]) rfl ?_
  rw [HR.out]
  exact F.out
set_option maxHeartbeats 8000000 in
theorem check_full_run {A:Option Addr} {n c:Nat} {B:Option Addr} {bn bc:Nat} {C:Option Addr} {cn cc:Nat} {l:List Fil} {room fuse:Int} {off:Bool} {frm seg run:Int} {s:Bm.Sta} (w:World) (a b:Addr) (h0:¬ 1000000≤seg) (h1:1000000≤run) (HK:Hid (Kr w ⟨A,n,c,B,bn,bc,C,cn,cc⟩ ⟨⟨l,room,fuse,off⟩,frm,seg,run,s,false⟩)) (KW:Hid (∀ (e:Int) W,Q w W→Calls Tryz.prog 74 #[.int .i64 e] W fun ev w'=>ev=.returned (errV a b e)∧Q W w')) (y:Ks×Int) (HR:Hid (y=(⟨⟨l,room,fuse,off⟩,frm,seg,run,s,false⟩,5))) :
    Calls Tryz.prog 57 #[kvV ⟨A,n,c,B,bn,bc,C,cn,cc⟩ ⟨⟨l,room,fuse,off⟩,frm,seg,run,s,false⟩] w (RetE w a b y):=by
  obtain ⟨T,u,hve⟩:∃ T u,Value.iface T u=errV a b 5:=errV_is a b (by decide)
  have KV:Hid (∀ W,Q w W→Calls Tryz.prog 74 #[.int .i64 5] W fun ev w'=>ev=.returned (.iface T u)∧Q W w'):=Lib.hid (fun W q=>by rw [hve];exact KW.out 5 W q)
  have HV:=Lib.hid hve
  clear hve KW
  have Z:Hid (Kc w (w.heap.size+1) ⟨A,n,c,B,bn,bc,C,cn,cc⟩ ⟨⟨l,room,fuse,off⟩,frm,seg,run,s,false⟩ ((w.alloc (.cells #[.slice A n c,.int .i64 room,.int .i64 fuse,.bool off,.int .i64 frm,.int .i64 seg,.int .i64 run,.slice B bn bc,.slice C cn cc,.bool false] 32)).alloc (.cells #[.slice none 0 0,.int .i64 0,.int .i64 0,.bool false,.int .i64 0,.int .i64 0,.int .i64 0,.slice none 0 0,.slice none 0 0,.bool false] 32))):=Lib.hid (Kc.two HK.out)
  go_enter Tryz.func57,Tryz.ntmps57
  go_upto_region 1 with (fail)
  generalize ((w.alloc (.cells #[.slice A n c,.int .i64 room,.int .i64 fuse,.bool off,.int .i64 frm,.int .i64 seg,.int .i64 run,.slice B bn bc,.slice C cn cc,.bool false] 32)).alloc (.cells #[.slice none 0 0,.int .i64 0,.int .i64 0,.bool false,.int .i64 0,.int .i64 0,.int .i64 0,.slice none 0 0,.slice none 0 0,.bool false] 32))=W at Z ⊢
  clear HK
  obtain ⟨e0,e1,e2,e3,e4,e5,e6,e7,e8,e9⟩:=kget Z.out.kb.box
  obtain ⟨f0,f1,f2,f3,f4,f5,f6,f7,f8,f9⟩:=kfree Z.out.kb.box
  have Y:=Lib.hid Z.out
  clear Z
  go_upto_region 5 with (fail)
  refine wp_region_held_drew (S:=fun w'=>Bx w' w.heap.size (kL ⟨A,n,c,B,bn,bc,C,cn,cc⟩ ⟨⟨l,room,fuse,off⟩,frm,seg,run,s,false⟩)) (by kernel_rfl) ?szz10 (fun hHeld=>?rzz10)
  case szz10 =>
   exact Y.out.kb.box.drew
  refine takeH 0 ?v11 ?y11 ?_
  case y11=>intro w hSw;obtain ⟨s0,s1,s2,s3,s4,s5,s6,s7,s8,s9⟩:=kget hSw;go_simp;try with_reducible rfl
  refine oneH 1 (fun K hK=>?_)
  go_simp
  refine (KV.out _ (Y.out.q.trans (Q.refl _).drew)).mono ?_
  rintro e w4 ⟨rfl,q4⟩
  have V:=Lib.hid (Y.out.step ((Q.refl _).drew.trans q4))
  have F:Hid (RetE w a b (⟨⟨l,room,fuse,off⟩,frm,seg,run,s,false⟩,5) (.returned (.tuple #[kvV ⟨A,n,c,B,bn,bc,C,cn,cc⟩ ⟨⟨l,room,fuse,off⟩,frm,seg,run,s,false⟩,.iface T u])) ((((((((((w4.setCell ⟨w.heap.size+1,0,none⟩ (.slice A n c)).setCell ⟨w.heap.size+1,1,none⟩ (.int .i64 room)).setCell ⟨w.heap.size+1,2,none⟩ (.int .i64 fuse)).setCell ⟨w.heap.size+1,3,none⟩ (.bool off)).setCell ⟨w.heap.size+1,4,none⟩ (.int .i64 frm)).setCell ⟨w.heap.size+1,5,none⟩ (.int .i64 seg)).setCell ⟨w.heap.size+1,6,none⟩ (.int .i64 run)).setCell ⟨w.heap.size+1,7,none⟩ (.slice B bn bc)).setCell ⟨w.heap.size+1,8,none⟩ (.slice C cn cc)).setCell ⟨w.heap.size+1,9,none⟩ (.bool false))):=Lib.hid (by rw [HV.out];exact V.out.finE V.out.kb.is a b 5)
  have R:Hid (Bx ((((((((((w4.setCell ⟨w.heap.size+1,0,none⟩ (.slice A n c)).setCell ⟨w.heap.size+1,1,none⟩ (.int .i64 room)).setCell ⟨w.heap.size+1,2,none⟩ (.int .i64 fuse)).setCell ⟨w.heap.size+1,3,none⟩ (.bool off)).setCell ⟨w.heap.size+1,4,none⟩ (.int .i64 frm)).setCell ⟨w.heap.size+1,5,none⟩ (.int .i64 seg)).setCell ⟨w.heap.size+1,6,none⟩ (.int .i64 run)).setCell ⟨w.heap.size+1,7,none⟩ (.slice B bn bc)).setCell ⟨w.heap.size+1,8,none⟩ (.slice C cn cc)).setCell ⟨w.heap.size+1,9,none⟩ (.bool false)) (w.heap.size+1) (kL ⟨A,n,c,B,bn,bc,C,cn,cc⟩ ⟨⟨l,room,fuse,off⟩,frm,seg,run,s,false⟩)):=Lib.hid (V.out.boxR ⟨A,n,c,B,bn,bc,C,cn,cc⟩ ⟨⟨l,room,fuse,off⟩,frm,seg,run,s,false⟩)
  have U:Hid (Bx ((((((((((w4.setCell ⟨w.heap.size+1,0,none⟩ (.slice A n c)).setCell ⟨w.heap.size+1,1,none⟩ (.int .i64 room)).setCell ⟨w.heap.size+1,2,none⟩ (.int .i64 fuse)).setCell ⟨w.heap.size+1,3,none⟩ (.bool off)).setCell ⟨w.heap.size+1,4,none⟩ (.int .i64 frm)).setCell ⟨w.heap.size+1,5,none⟩ (.int .i64 seg)).setCell ⟨w.heap.size+1,6,none⟩ (.int .i64 run)).setCell ⟨w.heap.size+1,7,none⟩ (.slice B bn bc)).setCell ⟨w.heap.size+1,8,none⟩ (.slice C cn cc)).setCell ⟨w.heap.size+1,9,none⟩ (.bool false)) w.heap.size (kL ⟨A,n,c,B,bn,bc,C,cn,cc⟩ ⟨⟨l,room,fuse,off⟩,frm,seg,run,s,false⟩)):=Lib.hid (V.out.kb.box.far_stk (by have:=V.out.lt;omega) (us10 ⟨A,n,c,B,bn,bc,C,cn,cc⟩ ⟨⟨l,room,fuse,off⟩,frm,seg,run,s,false⟩))
  go_wp2_with fail
  refine hK.out _ _ ?Szz14 (fun hHeld=>?_)
  case Szz14 =>
   exact V.out.kb.box
  clear hK K
  try simp only [Act.put,sA,sB,sC]
  refine oneH 2 (fun K hK=>?_)
  obtain ⟨g0,g1,g2,g3,g4,g5,g6,g7,g8,g9⟩:=kfree V.out.res
  obtain ⟨i0,i1,i2,i3,i4,i5,i6,i7,i8,i9⟩:=kget V.out.res
  go_simp
  refine hK.out _ _ ?Szz13 (fun hHeld=>?_)
  case Szz13 =>
   exact U.out
  clear hK K
  try simp only [Act.put,sA,sB,sC]
  refine tadH 3 ?_
  refine wpAnyH_done (by kernel_rfl) ?_ _
  clear V Y q4 U
  go_wp2
  (try rw [Exit.noGoto_ret])
  obtain ⟨r0,r1,r2,r3,r4,r5,r6,r7,r8,r9⟩:=kget R.out
  refine bodyPost_ret (v:=.tuple #[kvV ⟨A,n,c,B,bn,bc,C,cn,cc⟩ ⟨⟨l,room,fuse,off⟩,frm,seg,run,s,false⟩,.iface T u]) (by simp [results,Tryz.results57,go_sem,r0,r1,r2,r3,r4,r5,r6,r7,r8,r9]) rfl ?_
  rw [HR.out]
  exact F.out
set_option maxHeartbeats 8000000 in
theorem check_no {A:Option Addr} {n c:Nat} {B:Option Addr} {bn bc:Nat} {C:Option Addr} {cn cc:Nat} {l:List Fil} {room fuse:Int} {off:Bool} {frm seg run:Int} {s:Bm.Sta} (w:World) (a b:Addr) (hs:¬ 1000000≤seg) (hs0:-1000000≤seg) (hr:¬ 1000000≤run) (hr0:-1000000≤run) (prs:List Prm.Pr) (rb:ByteArray) (N:Nat) (KP:Hid (∀ W,Q w W→Calls Tryz.prog 103 #[staV B bn bc C cn cc] W (RetL pairK W N prs))) (be:Int) (KB:Hid (∀ W A c,Lst pairK W A N prs→Calls Tryz.prog 102 #[.slice A N c] W fun e w'=>e=.returned (.tuple #[.string rb,.int .i64 be])∧Q W w')) (h0:be≠0) (HK:Hid (Kr w ⟨A,n,c,B,bn,bc,C,cn,cc⟩ ⟨⟨l,room,fuse,off⟩,frm,seg,run,s,false⟩)) (KW:Hid (∀ (e:Int) W,Q w W→Calls Tryz.prog 74 #[.int .i64 e] W fun ev w'=>ev=.returned (errV a b e)∧Q W w')) (y:Ks×Int) (HR:Hid (y=(⟨⟨l,room,fuse,off⟩,frm,seg,run,s,false⟩,be))) :
    Calls Tryz.prog 57 #[kvV ⟨A,n,c,B,bn,bc,C,cn,cc⟩ ⟨⟨l,room,fuse,off⟩,frm,seg,run,s,false⟩] w (RetE w a b y):=by
  obtain ⟨T,u,hve⟩:∃ T u,Value.iface T u=errV a b be:=errV_is a b h0
  have KV:Hid (∀ W,Q w W→Calls Tryz.prog 74 #[.int .i64 be] W fun ev w'=>ev=.returned (.iface T u)∧Q W w'):=Lib.hid (fun W q=>by rw [hve];exact KW.out be W q)
  have HV:=Lib.hid hve
  clear hve KW
  have hb:(be != 0)=true:=by simpa using h0
  clear h0
  have Z:Hid (Kc w (w.heap.size+1) ⟨A,n,c,B,bn,bc,C,cn,cc⟩ ⟨⟨l,room,fuse,off⟩,frm,seg,run,s,false⟩ ((w.alloc (.cells #[.slice A n c,.int .i64 room,.int .i64 fuse,.bool off,.int .i64 frm,.int .i64 seg,.int .i64 run,.slice B bn bc,.slice C cn cc,.bool false] 32)).alloc (.cells #[.slice none 0 0,.int .i64 0,.int .i64 0,.bool false,.int .i64 0,.int .i64 0,.int .i64 0,.slice none 0 0,.slice none 0 0,.bool false] 32))):=Lib.hid (Kc.two HK.out)
  go_enter Tryz.func57,Tryz.ntmps57
  go_upto_region 1 with (fail)
  generalize ((w.alloc (.cells #[.slice A n c,.int .i64 room,.int .i64 fuse,.bool off,.int .i64 frm,.int .i64 seg,.int .i64 run,.slice B bn bc,.slice C cn cc,.bool false] 32)).alloc (.cells #[.slice none 0 0,.int .i64 0,.int .i64 0,.bool false,.int .i64 0,.int .i64 0,.int .i64 0,.slice none 0 0,.slice none 0 0,.bool false] 32))=W at Z ⊢
  clear HK
  obtain ⟨e0,e1,e2,e3,e4,e5,e6,e7,e8,e9⟩:=kget Z.out.kb.box
  obtain ⟨f0,f1,f2,f3,f4,f5,f6,f7,f8,f9⟩:=kfree Z.out.kb.box
  go_upto_region 6 with (fail)
  go_wp2_with fail
  refine (KP.out _ Z.out.q).mono ?_
  rintro e w1 ⟨A1,c1,rfl,o1,q1⟩
  have Z:=Lib.hid (Z.out.step q1)
  have O1:=Lib.hid o1.lst
  clear o1 q1
  go_wp2_with fail
  refine (KB.out _ A1 c1 O1.out).mono ?_
  rintro e w3 ⟨rfl,q3⟩
  have Z:=Lib.hid (Z.out.step q3)
  clear q3 O1 e0 e1 e2 e3 e4 e5 e6 e7 e8 e9 f0 f1 f2 f3 f4 f5 f6 f7 f8 f9
  have Y:=Lib.hid Z.out
  clear Z
  obtain ⟨e0,e1,e2,e3,e4,e5,e6,e7,e8,e9⟩:=kget Y.out.kb.box
  obtain ⟨f0,f1,f2,f3,f4,f5,f6,f7,f8,f9⟩:=kfree Y.out.kb.box
  go_upto_region 8 with (fail)
  refine wp_region_held_drew (S:=fun w'=>Bx w' w.heap.size (kL ⟨A,n,c,B,bn,bc,C,cn,cc⟩ ⟨⟨l,room,fuse,off⟩,frm,seg,run,s,false⟩)) (by kernel_rfl) ?szz15 (fun hHeld=>?rzz15)
  case szz15 =>
   exact Y.out.kb.box.drew
  refine takeH 0 ?v16 ?y16 ?_
  case y16=>intro w hSw;obtain ⟨s0,s1,s2,s3,s4,s5,s6,s7,s8,s9⟩:=kget hSw;go_simp;try with_reducible rfl
  refine tadH 1 ?_
  refine oneH 2 (fun K hK=>?_)
  go_simp
  refine (KV.out _ (Y.out.q.trans (Q.refl _).drew)).mono ?_
  rintro e w4 ⟨rfl,q4⟩
  have V:=Lib.hid (Y.out.step ((Q.refl _).drew.trans q4))
  have F:Hid (RetE w a b (⟨⟨l,room,fuse,off⟩,frm,seg,run,s,false⟩,be) (.returned (.tuple #[kvV ⟨A,n,c,B,bn,bc,C,cn,cc⟩ ⟨⟨l,room,fuse,off⟩,frm,seg,run,s,false⟩,.iface T u])) ((((((((((w4.setCell ⟨w.heap.size+1,0,none⟩ (.slice A n c)).setCell ⟨w.heap.size+1,1,none⟩ (.int .i64 room)).setCell ⟨w.heap.size+1,2,none⟩ (.int .i64 fuse)).setCell ⟨w.heap.size+1,3,none⟩ (.bool off)).setCell ⟨w.heap.size+1,4,none⟩ (.int .i64 frm)).setCell ⟨w.heap.size+1,5,none⟩ (.int .i64 seg)).setCell ⟨w.heap.size+1,6,none⟩ (.int .i64 run)).setCell ⟨w.heap.size+1,7,none⟩ (.slice B bn bc)).setCell ⟨w.heap.size+1,8,none⟩ (.slice C cn cc)).setCell ⟨w.heap.size+1,9,none⟩ (.bool false))):=Lib.hid (by rw [HV.out];exact V.out.finE V.out.kb.is a b be)
  have R:Hid (Bx ((((((((((w4.setCell ⟨w.heap.size+1,0,none⟩ (.slice A n c)).setCell ⟨w.heap.size+1,1,none⟩ (.int .i64 room)).setCell ⟨w.heap.size+1,2,none⟩ (.int .i64 fuse)).setCell ⟨w.heap.size+1,3,none⟩ (.bool off)).setCell ⟨w.heap.size+1,4,none⟩ (.int .i64 frm)).setCell ⟨w.heap.size+1,5,none⟩ (.int .i64 seg)).setCell ⟨w.heap.size+1,6,none⟩ (.int .i64 run)).setCell ⟨w.heap.size+1,7,none⟩ (.slice B bn bc)).setCell ⟨w.heap.size+1,8,none⟩ (.slice C cn cc)).setCell ⟨w.heap.size+1,9,none⟩ (.bool false)) (w.heap.size+1) (kL ⟨A,n,c,B,bn,bc,C,cn,cc⟩ ⟨⟨l,room,fuse,off⟩,frm,seg,run,s,false⟩)):=Lib.hid (V.out.boxR ⟨A,n,c,B,bn,bc,C,cn,cc⟩ ⟨⟨l,room,fuse,off⟩,frm,seg,run,s,false⟩)
  have U:Hid (Bx ((((((((((w4.setCell ⟨w.heap.size+1,0,none⟩ (.slice A n c)).setCell ⟨w.heap.size+1,1,none⟩ (.int .i64 room)).setCell ⟨w.heap.size+1,2,none⟩ (.int .i64 fuse)).setCell ⟨w.heap.size+1,3,none⟩ (.bool off)).setCell ⟨w.heap.size+1,4,none⟩ (.int .i64 frm)).setCell ⟨w.heap.size+1,5,none⟩ (.int .i64 seg)).setCell ⟨w.heap.size+1,6,none⟩ (.int .i64 run)).setCell ⟨w.heap.size+1,7,none⟩ (.slice B bn bc)).setCell ⟨w.heap.size+1,8,none⟩ (.slice C cn cc)).setCell ⟨w.heap.size+1,9,none⟩ (.bool false)) w.heap.size (kL ⟨A,n,c,B,bn,bc,C,cn,cc⟩ ⟨⟨l,room,fuse,off⟩,frm,seg,run,s,false⟩)):=Lib.hid (V.out.kb.box.far_stk (by have:=V.out.lt;omega) (us10 ⟨A,n,c,B,bn,bc,C,cn,cc⟩ ⟨⟨l,room,fuse,off⟩,frm,seg,run,s,false⟩))
  go_wp2_with fail
  refine hK.out _ _ ?Szz20 (fun hHeld=>?_)
  case Szz20 =>
   exact V.out.kb.box
  clear hK K
  try simp only [Act.put,sA,sB,sC]
  refine oneH 3 (fun K hK=>?_)
  obtain ⟨g0,g1,g2,g3,g4,g5,g6,g7,g8,g9⟩:=kfree V.out.res
  obtain ⟨i0,i1,i2,i3,i4,i5,i6,i7,i8,i9⟩:=kget V.out.res
  go_simp
  refine hK.out _ _ ?Szz19 (fun hHeld=>?_)
  case Szz19 =>
   exact U.out
  clear hK K
  try simp only [Act.put,sA,sB,sC]
  refine tadH 4 ?_
  refine wpAnyH_done (by kernel_rfl) ?_ _
  clear V Y q4 U
  go_wp2
  (try rw [Exit.noGoto_ret])
  obtain ⟨r0,r1,r2,r3,r4,r5,r6,r7,r8,r9⟩:=kget R.out
  refine bodyPost_ret (v:=.tuple #[kvV ⟨A,n,c,B,bn,bc,C,cn,cc⟩ ⟨⟨l,room,fuse,off⟩,frm,seg,run,s,false⟩,.iface T u]) (by simp [results,Tryz.results57,go_sem,r0,r1,r2,r3,r4,r5,r6,r7,r8,r9]) rfl ?_
  rw [HR.out]
  exact F.out
set_option maxHeartbeats 8000000 in
theorem check_l1 {A:Option Addr} {n c:Nat} {B:Option Addr} {bn bc:Nat} {C:Option Addr} {cn cc:Nat} {l:List Fil} {room fuse:Int} {off:Bool} {frm seg run:Int} {s:Bm.Sta} (w:World) (a b:Addr) (hs:¬ 1000000≤seg) (hs0:-1000000≤seg) (hr:¬ 1000000≤run) (hr0:-1000000≤run) (prs:List Prm.Pr) (rb:ByteArray) (N:Nat) (KP:Hid (∀ W,Q w W→Calls Tryz.prog 103 #[staV B bn bc C cn cc] W (RetL pairK W N prs))) (KB:Hid (∀ W A c,Lst pairK W A N prs→Calls Tryz.prog 102 #[.slice A N c] W fun e w'=>e=.returned (.tuple #[.string rb,.int .i64 0])∧Q W w')) (l1:List Fil) (room1 fuse1:Int) (off1:Bool) (er1:Int) (nm:ByteArray) (KN:Hid (∀ W,Q w W→Calls Tryz.prog 14 #[.int .i64 (run+1)] W fun e w'=>e=.returned (.string nm)∧Q W w')) (KL1:Hid (∀ W,Q w W→Dsk W A n c l→Calls Tryz.prog 104 #[dkv A n c room fuse off,.string nm,.string rb] W (RetD0 W (⟨l1,room1,fuse1,off1⟩,er1)))) (h0:er1≠0) (HK:Hid (Kr w ⟨A,n,c,B,bn,bc,C,cn,cc⟩ ⟨⟨l,room,fuse,off⟩,frm,seg,run,s,false⟩)) (KW:Hid (∀ (e:Int) W,Q w W→Calls Tryz.prog 74 #[.int .i64 e] W fun ev w'=>ev=.returned (errV a b e)∧Q W w')) (y:Ks×Int) (HR:Hid (y=(⟨⟨l1,room1,fuse1,off1⟩,frm,seg,run,s,false⟩,er1))) :
    Calls Tryz.prog 57 #[kvV ⟨A,n,c,B,bn,bc,C,cn,cc⟩ ⟨⟨l,room,fuse,off⟩,frm,seg,run,s,false⟩] w (RetE w a b y):=by
  obtain ⟨T,u,hve⟩:∃ T u,Value.iface T u=errV a b er1:=errV_is a b h0
  have KV:Hid (∀ W,Q w W→Calls Tryz.prog 74 #[.int .i64 er1] W fun ev w'=>ev=.returned (.iface T u)∧Q W w'):=Lib.hid (fun W q=>by rw [hve];exact KW.out er1 W q)
  have HV:=Lib.hid hve
  clear hve KW
  have hb:(er1 == 0)=false:=by simpa using h0
  clear h0
  have Z:Hid (Kc w (w.heap.size+1) ⟨A,n,c,B,bn,bc,C,cn,cc⟩ ⟨⟨l,room,fuse,off⟩,frm,seg,run,s,false⟩ ((w.alloc (.cells #[.slice A n c,.int .i64 room,.int .i64 fuse,.bool off,.int .i64 frm,.int .i64 seg,.int .i64 run,.slice B bn bc,.slice C cn cc,.bool false] 32)).alloc (.cells #[.slice none 0 0,.int .i64 0,.int .i64 0,.bool false,.int .i64 0,.int .i64 0,.int .i64 0,.slice none 0 0,.slice none 0 0,.bool false] 32))):=Lib.hid (Kc.two HK.out)
  go_enter Tryz.func57,Tryz.ntmps57
  go_upto_region 1 with (fail)
  generalize ((w.alloc (.cells #[.slice A n c,.int .i64 room,.int .i64 fuse,.bool off,.int .i64 frm,.int .i64 seg,.int .i64 run,.slice B bn bc,.slice C cn cc,.bool false] 32)).alloc (.cells #[.slice none 0 0,.int .i64 0,.int .i64 0,.bool false,.int .i64 0,.int .i64 0,.int .i64 0,.slice none 0 0,.slice none 0 0,.bool false] 32))=W at Z ⊢
  clear HK
  obtain ⟨e0,e1,e2,e3,e4,e5,e6,e7,e8,e9⟩:=kget Z.out.kb.box
  obtain ⟨f0,f1,f2,f3,f4,f5,f6,f7,f8,f9⟩:=kfree Z.out.kb.box
  go_upto_region 6 with (fail)
  go_wp2_with fail
  refine (KP.out _ Z.out.q).mono ?_
  rintro e w1 ⟨A1,c1,rfl,o1,q1⟩
  have Z:=Lib.hid (Z.out.step q1)
  have O1:=Lib.hid o1.lst
  clear o1 q1
  go_wp2_with fail
  refine (KB.out _ A1 c1 O1.out).mono ?_
  rintro e w3 ⟨rfl,q3⟩
  have Z:=Lib.hid (Z.out.step q3)
  clear q3 O1 e0 e1 e2 e3 e4 e5 e6 e7 e8 e9 f0 f1 f2 f3 f4 f5 f6 f7 f8 f9
  obtain ⟨e0,e1,e2,e3,e4,e5,e6,e7,e8,e9⟩:=kget Z.out.kb.box
  obtain ⟨f0,f1,f2,f3,f4,f5,f6,f7,f8,f9⟩:=kfree Z.out.kb.box
  go_upto_region 10 with (fail)
  have Z:=Lib.hid (Ke.new Z.out)
  generalize w3.alloc (.cells #[.slice A n c,.int .i64 room,.int .i64 fuse,.bool off,.int .i64 frm,.int .i64 seg,.int .i64 run,.slice B bn bc,.slice C cn cc,.bool false] 32)=W2 at Z ⊢
  generalize w3.heap.size=gE at Z ⊢
  clear e0 e1 e2 e3 e4 e5 e6 e7 e8 e9 f0 f1 f2 f3 f4 f5 f6 f7 f8 f9
  obtain ⟨e0,e1,e2,e3,e4,e5,e6,e7,e8,e9⟩:=kget Z.out.kc.kb.box
  obtain ⟨f0,f1,f2,f3,f4,f5,f6,f7,f8,f9⟩:=kfree Z.out.kc.kb.box
  go_cut [7,8] (fun s7 s8 wx=>s7=.int .i64 (seg+1)∧s8=.int .i64 (run+1)∧Q W2 wx)
  case first =>
   refine wp_region_held_drew (S:=Q W2) (by kernel_rfl) ?szz47 (fun hHeld=>?rzz47)
   case szz47 =>
    exact (Q.refl W2).drew
   generalize hgen:W2.drew=D0 at hHeld ⊢
   clear hgen
   refine takeH 0 ?v48 ?y48 ?_
   case y48=>intro w hSw;obtain ⟨z0,z1,z2,z3,z4,z5,z6,z7,z8,z9⟩:=box10 hSw e0 e1 e2 e3 e4 e5 e6 e7 e8 e9;clear hSw;go_simp;try with_reducible rfl
   refine takeH 1 ?v49 ?y49 ?_
   case y49=>intro w hSw;obtain ⟨z0,z1,z2,z3,z4,z5,z6,z7,z8,z9⟩:=box10 hSw e0 e1 e2 e3 e4 e5 e6 e7 e8 e9;clear hSw;go_simp;try with_reducible rfl
   refine takeH 2 ?v50 ?y50 ?_
   case y50=>intro w hSw;obtain ⟨z0,z1,z2,z3,z4,z5,z6,z7,z8,z9⟩:=box10 hSw e0 e1 e2 e3 e4 e5 e6 e7 e8 e9;clear hSw;go_simp;try with_reducible rfl
   refine wpAnyH_ready (rs:=[3,6]) (by kernel_rfl) (by simp) ?_
   refine consH (fun K hK=>?kzz66) ?_
   case kzz66 =>
    go_simp
    refine hK.out _ _ ?Szz66 (fun hHeld=>?_)
    case Szz66 =>
     exact hHeld
    clear hK K
    try simp only [Act.put,sA,sB,sC]
    refine wpAnyH_ready (rs:=[4,6]) (by kernel_rfl) (by simp) ?_
    refine consH (fun K hK=>?kzz60) ?_
    case kzz60 =>
     have hSw:=hHeld
     obtain ⟨z0,z1,z2,z3,z4,z5,z6,z7,z8,z9⟩:=box10 hSw e0 e1 e2 e3 e4 e5 e6 e7 e8 e9;clear hSw
     go_simp
     refine hK.out _ _ ?Szz60 (fun hHeld=>?_)
     case Szz60 =>
      exact hHeld
     clear hK K
     try simp only [Act.put,sA,sB,sC]
     refine wpAnyH_ready (rs:=[5,6]) (by kernel_rfl) (by simp) ?_
     refine consH (fun K hK=>?kzz55) ?_
     case kzz55 =>
      go_simp
      refine hK.out _ _ ?Szz55 (fun hHeld=>?_)
      case Szz55 =>
       exact hHeld
      clear hK K
      try simp only [Act.put,sA,sB,sC]
      refine takeH 6 ?v51 ?y51 ?_
      case y51=>intro w hSw;obtain ⟨z0,z1,z2,z3,z4,z5,z6,z7,z8,z9⟩:=box10 hSw e0 e1 e2 e3 e4 e5 e6 e7 e8 e9;clear hSw;go_simp;try with_reducible rfl
      refine takeH 7 ?v52 ?y52 ?_
      case y52=>intro w hSw;obtain ⟨z0,z1,z2,z3,z4,z5,z6,z7,z8,z9⟩:=box10 hSw e0 e1 e2 e3 e4 e5 e6 e7 e8 e9;clear hSw;go_simp;try with_reducible rfl
      refine wpAnyH_done (by kernel_rfl) ?_ _
      go_wp2_with fail
      go_meet
      exact ⟨by rw [IntWalk.i64_in (seg+1) (by omega)],by rw [IntWalk.i64_in (run+1) (by omega)],hHeld⟩
     refine consH (fun K hK=>?_) AllReadyH.nil
     go_simp
     refine hK.out _ _ ?Szz56 (fun hHeld=>?_)
     case Szz56 =>
      exact hHeld
     clear hK K
     try simp only [Act.put,sA,sB,sC]
     refine takeH 5 ?v53 ?y53 ?_
     case y53=>intro w hSw;obtain ⟨z0,z1,z2,z3,z4,z5,z6,z7,z8,z9⟩:=box10 hSw e0 e1 e2 e3 e4 e5 e6 e7 e8 e9;clear hSw;go_simp;try with_reducible rfl
     refine takeH 7 ?v54 ?y54 ?_
     case y54=>intro w hSw;obtain ⟨z0,z1,z2,z3,z4,z5,z6,z7,z8,z9⟩:=box10 hSw e0 e1 e2 e3 e4 e5 e6 e7 e8 e9;clear hSw;go_simp;try with_reducible rfl
     refine wpAnyH_done (by kernel_rfl) ?_ _
     go_wp2_with fail
     go_meet
     exact ⟨by rw [IntWalk.i64_in (seg+1) (by omega)],by rw [IntWalk.i64_in (run+1) (by omega)],hHeld⟩
    refine consH (fun K hK=>?_) AllReadyH.nil
    go_simp
    refine hK.out _ _ ?Szz61 (fun hHeld=>?_)
    case Szz61 =>
     exact hHeld
    clear hK K
    try simp only [Act.put,sA,sB,sC]
    refine takeH 4 ?v57 ?y57 ?_
    case y57=>intro w hSw;obtain ⟨z0,z1,z2,z3,z4,z5,z6,z7,z8,z9⟩:=box10 hSw e0 e1 e2 e3 e4 e5 e6 e7 e8 e9;clear hSw;go_simp;try with_reducible rfl
    refine takeH 5 ?v58 ?y58 ?_
    case y58=>intro w hSw;obtain ⟨z0,z1,z2,z3,z4,z5,z6,z7,z8,z9⟩:=box10 hSw e0 e1 e2 e3 e4 e5 e6 e7 e8 e9;clear hSw;go_simp;try with_reducible rfl
    refine takeH 7 ?v59 ?y59 ?_
    case y59=>intro w hSw;obtain ⟨z0,z1,z2,z3,z4,z5,z6,z7,z8,z9⟩:=box10 hSw e0 e1 e2 e3 e4 e5 e6 e7 e8 e9;clear hSw;go_simp;try with_reducible rfl
    refine wpAnyH_done (by kernel_rfl) ?_ _
    go_wp2_with fail
    go_meet
    exact ⟨by rw [IntWalk.i64_in (seg+1) (by omega)],by rw [IntWalk.i64_in (run+1) (by omega)],hHeld⟩
   refine consH (fun K hK=>?_) AllReadyH.nil
   go_simp
   refine hK.out _ _ ?Szz67 (fun hHeld=>?_)
   case Szz67 =>
    exact hHeld
   clear hK K
   try simp only [Act.put,sA,sB,sC]
   refine takeH 3 ?v62 ?y62 ?_
   case y62=>intro w hSw;obtain ⟨z0,z1,z2,z3,z4,z5,z6,z7,z8,z9⟩:=box10 hSw e0 e1 e2 e3 e4 e5 e6 e7 e8 e9;clear hSw;go_simp;try with_reducible rfl
   refine takeH 4 ?v63 ?y63 ?_
   case y63=>intro w hSw;obtain ⟨z0,z1,z2,z3,z4,z5,z6,z7,z8,z9⟩:=box10 hSw e0 e1 e2 e3 e4 e5 e6 e7 e8 e9;clear hSw;go_simp;try with_reducible rfl
   refine takeH 5 ?v64 ?y64 ?_
   case y64=>intro w hSw;obtain ⟨z0,z1,z2,z3,z4,z5,z6,z7,z8,z9⟩:=box10 hSw e0 e1 e2 e3 e4 e5 e6 e7 e8 e9;clear hSw;go_simp;try with_reducible rfl
   refine takeH 7 ?v65 ?y65 ?_
   case y65=>intro w hSw;obtain ⟨z0,z1,z2,z3,z4,z5,z6,z7,z8,z9⟩:=box10 hSw e0 e1 e2 e3 e4 e5 e6 e7 e8 e9;clear hSw;go_simp;try with_reducible rfl
   refine wpAnyH_done (by kernel_rfl) ?_ _
   go_wp2_with fail
   go_meet
   exact ⟨by rw [IntWalk.i64_in (seg+1) (by omega)],by rw [IntWalk.i64_in (run+1) (by omega)],hHeld⟩
  case rest =>
   obtain ⟨rfl,rfl,qc⟩:=hcut
   have Z:=Lib.hid (Z.out.step qc)
   clear qc e0 e1 e2 e3 e4 e5 e6 e7 e8 e9 f0 f1 f2 f3 f4 f5 f6 f7 f8 f9
   generalize wc=W3 at Z ⊢
   obtain ⟨e0,e1,e2,e3,e4,e5,e6,e7,e8,e9⟩:=kget Z.out.kc.kb.box
   obtain ⟨f0,f1,f2,f3,f4,f5,f6,f7,f8,f9⟩:=kfree Z.out.kc.kb.box
   go_upto_region 11 with (fail)
   go_cut [5] (fun s5 wx=>∃ (A4:Option Addr) (n4 c4:Nat),s5=.int .i64 er1∧Ke w ⟨A4,n4,c4,B,bn,bc,C,cn,cc⟩ ⟨⟨l1,room1,fuse1,off1⟩,frm,seg,run,s,false⟩ gE ⟨A,n,c,B,bn,bc,C,cn,cc⟩ ⟨⟨l,room,fuse,off⟩,frm,seg,run,s,false⟩ wx)
   case first =>
    refine wp_region_heldL 10 (Q W3) (by kernel_rfl) ?szz27 (fun hHeld=>?rzz27)
    case szz27 =>
     exact (Q.refl W3).drew
    generalize hgen:W3.drew=D0 at hHeld ⊢
    clear hgen
    refine takeL 0 ?v28 ?y28 ?_
    case y28=>intro w hSw;obtain ⟨z0,z1,z2,z3,z4,z5,z6,z7,z8,z9⟩:=box10 hSw e0 e1 e2 e3 e4 e5 e6 e7 e8 e9;clear hSw;go_simp;try with_reducible rfl
    refine takeL 1 ?v29 ?y29 ?_
    case y29=>intro w hSw;obtain ⟨z0,z1,z2,z3,z4,z5,z6,z7,z8,z9⟩:=box10 hSw e0 e1 e2 e3 e4 e5 e6 e7 e8 e9;clear hSw;go_simp;try with_reducible rfl
    refine takeL 2 ?v30 ?y30 ?_
    case y30=>intro w hSw;obtain ⟨z0,z1,z2,z3,z4,z5,z6,z7,z8,z9⟩:=box10 hSw e0 e1 e2 e3 e4 e5 e6 e7 e8 e9;clear hSw;go_simp;try with_reducible rfl
    refine takeL 4 ?v31 ?y31 ?_
    case y31=>intro w hSw;obtain ⟨z0,z1,z2,z3,z4,z5,z6,z7,z8,z9⟩:=box10 hSw e0 e1 e2 e3 e4 e5 e6 e7 e8 e9;clear hSw;go_simp;try with_reducible rfl
    refine oneL 3 (fun K hK=>?_)
    go_simp
    refine (KN.out _ (Z.out.kc.q.trans hHeld)).mono ?_
    rintro e u1 ⟨rfl,q1⟩
    go_wp2_with fail
    refine hK.out _ _ ?Szz46 (fun hHeld=>?_)
    case Szz46 =>
     exact hHeld.trans q1
    clear hK K
    try simp only [Act.put,sA,sB,sC]
    refine oneL 5 (fun K hK=>?_)
    go_simp
    refine (KL1.out _ (Z.out.kc.q.trans hHeld) ((Z.out.kc.kb.is.dsk).q hHeld)).mono ?_
    rintro e u2 ⟨A4,n4,c4,rfl,hd4,q2⟩
    have HD:=Lib.hid hd4
    go_wp2_with fail
    refine hK.out _ _ ?Szz45 (fun hHeld=>?_)
    case Szz45 =>
     exact hHeld.trans q2
    clear hK K
    try simp only [Act.put,sA,sB,sC]
    refine takeL 6 ?v32 ?y32 ?_
    case y32=>intro w hSw;obtain ⟨z0,z1,z2,z3,z4,z5,z6,z7,z8,z9⟩:=box10 hSw e0 e1 e2 e3 e4 e5 e6 e7 e8 e9;clear hSw;go_simp;try with_reducible rfl
    refine takeL 7 ?v33 ?y33 ?_
    case y33=>intro w hSw;obtain ⟨z0,z1,z2,z3,z4,z5,z6,z7,z8,z9⟩:=box10 hSw e0 e1 e2 e3 e4 e5 e6 e7 e8 e9;clear hSw;go_simp;try with_reducible rfl
    refine wpAnyL_ready (rs:=[8,9]) (by kernel_rfl) (by simp) ?_
    refine consL (fun K hK=>?kzz43) ?_
    case kzz43 =>
     go_simp
     refine hK.out _ _ ?Szz43 (fun hHeld=>?_)
     case Szz43 =>
      exact hHeld
     clear hK K
     try simp only [Act.put,sA,sB,sC]
     refine takeL 9 ?v34 ?y34 ?_
     case y34=>intro w hSw;obtain ⟨z0,z1,z2,z3,z4,z5,z6,z7,z8,z9⟩:=box10 hSw e0 e1 e2 e3 e4 e5 e6 e7 e8 e9;clear hSw;go_simp;try with_reducible rfl
     refine oneK (fun K hK=>?_)
     have HZ:=Lib.hid hHeld
     obtain ⟨g0,g1,g2,g3,g4,g5,g6,g7,g8,g9⟩:=kget (Z.out.step hHeld).kc.kb.box
     obtain ⟨i0,i1,i2,i3,i4,i5,i6,i7,i8,i9⟩:=kfree (Z.out.step hHeld).kc.kb.box
     go_simp
     refine hK.out _ _ ?_
     clear hK K
     try simp only [Act.put,sA,sB,sC]
     refine takH 11 ?_
     refine wpAnyH_done (by kernel_rfl) ?_ _
     have ZZ:=Lib.hid ((Z.out.step HZ.out).disk (d2:=⟨l1,room1,fuse1,off1⟩) HD.out)
     clear Z HZ HD e0 e1 e2 e3 e4 e5 e6 e7 e8 e9 f0 f1 f2 f3 f4 f5 f6 f7 f8 f9 g0 g1 g2 g3 g4 g5 g6 g7 g8 g9 i0 i1 i2 i3 i4 i5 i6 i7 i8 i9
     go_wp2_with fail
     go_meet
     exact ⟨A4,n4,c4,rfl,ZZ.out⟩
    refine consL (fun K hK=>?_) AllReadyL.nil
    go_simp
    refine hK.out _ _ ?Szz44 (fun hHeld=>?_)
    case Szz44 =>
     exact hHeld
    clear hK K
    try simp only [Act.put,sA,sB,sC]
    refine wpAnyL_ready (rs:=[8,10]) (by kernel_rfl) (by simp) ?_
    refine consL (fun K hK=>?kzz41) ?_
    case kzz41 =>
     go_simp
     refine hK.out _ _ ?Szz41 (fun hHeld=>?_)
     case Szz41 =>
      exact hHeld
     clear hK K
     try simp only [Act.put,sA,sB,sC]
     refine oneK (fun K hK=>?_)
     have HZ:=Lib.hid hHeld
     obtain ⟨g0,g1,g2,g3,g4,g5,g6,g7,g8,g9⟩:=kget (Z.out.step hHeld).kc.kb.box
     obtain ⟨i0,i1,i2,i3,i4,i5,i6,i7,i8,i9⟩:=kfree (Z.out.step hHeld).kc.kb.box
     go_simp
     refine hK.out _ _ ?_
     clear hK K
     try simp only [Act.put,sA,sB,sC]
     refine takH 11 ?_
     refine wpAnyH_done (by kernel_rfl) ?_ _
     have ZZ:=Lib.hid ((Z.out.step HZ.out).disk (d2:=⟨l1,room1,fuse1,off1⟩) HD.out)
     clear Z HZ HD e0 e1 e2 e3 e4 e5 e6 e7 e8 e9 f0 f1 f2 f3 f4 f5 f6 f7 f8 f9 g0 g1 g2 g3 g4 g5 g6 g7 g8 g9 i0 i1 i2 i3 i4 i5 i6 i7 i8 i9
     go_wp2_with fail
     go_meet
     exact ⟨A4,n4,c4,rfl,ZZ.out⟩
    refine consK (fun K hK=>?_) AllReadyL.nil
    have HZ:=Lib.hid hHeld
    obtain ⟨g0,g1,g2,g3,g4,g5,g6,g7,g8,g9⟩:=kget (Z.out.step hHeld).kc.kb.box
    obtain ⟨i0,i1,i2,i3,i4,i5,i6,i7,i8,i9⟩:=kfree (Z.out.step hHeld).kc.kb.box
    go_simp
    refine hK.out _ _ ?_
    clear hK K
    try simp only [Act.put,sA,sB,sC]
    refine takH 8 ?_
    refine takH 11 ?_
    refine wpAnyH_done (by kernel_rfl) ?_ _
    have ZZ:=Lib.hid ((Z.out.step HZ.out).disk (d2:=⟨l1,room1,fuse1,off1⟩) HD.out)
    clear Z HZ HD e0 e1 e2 e3 e4 e5 e6 e7 e8 e9 f0 f1 f2 f3 f4 f5 f6 f7 f8 f9 g0 g1 g2 g3 g4 g5 g6 g7 g8 g9 i0 i1 i2 i3 i4 i5 i6 i7 i8 i9
    go_wp2_with fail
    go_meet
    exact ⟨A4,n4,c4,rfl,ZZ.out⟩
   case rest =>
    obtain ⟨A4,n4,c4,rfl,zz⟩:=hcut
    clear Z e0 e1 e2 e3 e4 e5 e6 e7 e8 e9 f0 f1 f2 f3 f4 f5 f6 f7 f8 f9
    have Z:=Lib.hid zz
    clear zz
    generalize wc=W4 at Z ⊢
    have Y:=Lib.hid Z.out.kc
    clear Z
    obtain ⟨e0,e1,e2,e3,e4,e5,e6,e7,e8,e9⟩:=kget Y.out.kb.box
    obtain ⟨f0,f1,f2,f3,f4,f5,f6,f7,f8,f9⟩:=kfree Y.out.kb.box
    go_upto_region 17 with (fail)
    refine wp_region_held_drew (S:=fun w'=>Bx w' w.heap.size (kL ⟨A4,n4,c4,B,bn,bc,C,cn,cc⟩ ⟨⟨l1,room1,fuse1,off1⟩,frm,seg,run,s,false⟩)) (by kernel_rfl) ?szz21 (fun hHeld=>?rzz21)
    case szz21 =>
     exact Y.out.kb.box.drew
    refine takeH 0 ?v22 ?y22 ?_
    case y22=>intro w hSw;obtain ⟨s0,s1,s2,s3,s4,s5,s6,s7,s8,s9⟩:=kget hSw;go_simp;try with_reducible rfl
    refine tadH 1 ?_
    refine oneH 2 (fun K hK=>?_)
    go_simp
    refine (KV.out _ (Y.out.q.trans (Q.refl _).drew)).mono ?_
    rintro e w4 ⟨rfl,q4⟩
    have V:=Lib.hid (Y.out.step ((Q.refl _).drew.trans q4))
    have F:Hid (RetE w a b (⟨⟨l1,room1,fuse1,off1⟩,frm,seg,run,s,false⟩,er1) (.returned (.tuple #[kvV ⟨A4,n4,c4,B,bn,bc,C,cn,cc⟩ ⟨⟨l1,room1,fuse1,off1⟩,frm,seg,run,s,false⟩,.iface T u])) ((((((((((w4.setCell ⟨w.heap.size+1,0,none⟩ (.slice A4 n4 c4)).setCell ⟨w.heap.size+1,1,none⟩ (.int .i64 room1)).setCell ⟨w.heap.size+1,2,none⟩ (.int .i64 fuse1)).setCell ⟨w.heap.size+1,3,none⟩ (.bool off1)).setCell ⟨w.heap.size+1,4,none⟩ (.int .i64 frm)).setCell ⟨w.heap.size+1,5,none⟩ (.int .i64 seg)).setCell ⟨w.heap.size+1,6,none⟩ (.int .i64 run)).setCell ⟨w.heap.size+1,7,none⟩ (.slice B bn bc)).setCell ⟨w.heap.size+1,8,none⟩ (.slice C cn cc)).setCell ⟨w.heap.size+1,9,none⟩ (.bool false))):=Lib.hid (by rw [HV.out];exact V.out.finE V.out.kb.is a b er1)
    have R:Hid (Bx ((((((((((w4.setCell ⟨w.heap.size+1,0,none⟩ (.slice A4 n4 c4)).setCell ⟨w.heap.size+1,1,none⟩ (.int .i64 room1)).setCell ⟨w.heap.size+1,2,none⟩ (.int .i64 fuse1)).setCell ⟨w.heap.size+1,3,none⟩ (.bool off1)).setCell ⟨w.heap.size+1,4,none⟩ (.int .i64 frm)).setCell ⟨w.heap.size+1,5,none⟩ (.int .i64 seg)).setCell ⟨w.heap.size+1,6,none⟩ (.int .i64 run)).setCell ⟨w.heap.size+1,7,none⟩ (.slice B bn bc)).setCell ⟨w.heap.size+1,8,none⟩ (.slice C cn cc)).setCell ⟨w.heap.size+1,9,none⟩ (.bool false)) (w.heap.size+1) (kL ⟨A4,n4,c4,B,bn,bc,C,cn,cc⟩ ⟨⟨l1,room1,fuse1,off1⟩,frm,seg,run,s,false⟩)):=Lib.hid (V.out.boxR ⟨A4,n4,c4,B,bn,bc,C,cn,cc⟩ ⟨⟨l1,room1,fuse1,off1⟩,frm,seg,run,s,false⟩)
    have U:Hid (Bx ((((((((((w4.setCell ⟨w.heap.size+1,0,none⟩ (.slice A4 n4 c4)).setCell ⟨w.heap.size+1,1,none⟩ (.int .i64 room1)).setCell ⟨w.heap.size+1,2,none⟩ (.int .i64 fuse1)).setCell ⟨w.heap.size+1,3,none⟩ (.bool off1)).setCell ⟨w.heap.size+1,4,none⟩ (.int .i64 frm)).setCell ⟨w.heap.size+1,5,none⟩ (.int .i64 seg)).setCell ⟨w.heap.size+1,6,none⟩ (.int .i64 run)).setCell ⟨w.heap.size+1,7,none⟩ (.slice B bn bc)).setCell ⟨w.heap.size+1,8,none⟩ (.slice C cn cc)).setCell ⟨w.heap.size+1,9,none⟩ (.bool false)) w.heap.size (kL ⟨A4,n4,c4,B,bn,bc,C,cn,cc⟩ ⟨⟨l1,room1,fuse1,off1⟩,frm,seg,run,s,false⟩)):=Lib.hid (V.out.kb.box.far_stk (by have:=V.out.lt;omega) (us10 ⟨A4,n4,c4,B,bn,bc,C,cn,cc⟩ ⟨⟨l1,room1,fuse1,off1⟩,frm,seg,run,s,false⟩))
    go_wp2_with fail
    refine hK.out _ _ ?Szz26 (fun hHeld=>?_)
    case Szz26 =>
     exact V.out.kb.box
    clear hK K
    try simp only [Act.put,sA,sB,sC]
    refine oneH 3 (fun K hK=>?_)
    obtain ⟨g0,g1,g2,g3,g4,g5,g6,g7,g8,g9⟩:=kfree V.out.res
    obtain ⟨i0,i1,i2,i3,i4,i5,i6,i7,i8,i9⟩:=kget V.out.res
    go_simp
    refine hK.out _ _ ?Szz25 (fun hHeld=>?_)
    case Szz25 =>
     exact U.out
    clear hK K
    try simp only [Act.put,sA,sB,sC]
    refine tadH 4 ?_
    refine wpAnyH_done (by kernel_rfl) ?_ _
    clear V Y q4 U
    go_wp2
    (try rw [Exit.noGoto_ret])
    obtain ⟨r0,r1,r2,r3,r4,r5,r6,r7,r8,r9⟩:=kget R.out
    refine bodyPost_ret (v:=.tuple #[kvV ⟨A4,n4,c4,B,bn,bc,C,cn,cc⟩ ⟨⟨l1,room1,fuse1,off1⟩,frm,seg,run,s,false⟩,.iface T u]) (by simp [results,Tryz.results57,go_sem,r0,r1,r2,r3,r4,r5,r6,r7,r8,r9]) rfl ?_
    rw [HR.out]
    exact F.out
set_option maxHeartbeats 8000000 in
theorem check_l2 {A:Option Addr} {n c:Nat} {B:Option Addr} {bn bc:Nat} {C:Option Addr} {cn cc:Nat} {l:List Fil} {room fuse:Int} {off:Bool} {frm seg run:Int} {s:Bm.Sta} (w:World) (a b:Addr) (hs:¬ 1000000≤seg) (hs0:-1000000≤seg) (hr:¬ 1000000≤run) (hr0:-1000000≤run) (prs:List Prm.Pr) (rb:ByteArray) (N:Nat) (KP:Hid (∀ W,Q w W→Calls Tryz.prog 103 #[staV B bn bc C cn cc] W (RetL pairK W N prs))) (KB:Hid (∀ W A c,Lst pairK W A N prs→Calls Tryz.prog 102 #[.slice A N c] W fun e w'=>e=.returned (.tuple #[.string rb,.int .i64 0])∧Q W w')) (l1:List Fil) (room1 fuse1:Int) (off1:Bool) (l2:List Fil) (room2 fuse2:Int) (off2:Bool) (er2:Int) (nm:ByteArray) (KN:Hid (∀ W,Q w W→Calls Tryz.prog 14 #[.int .i64 (run+1)] W fun e w'=>e=.returned (.string nm)∧Q W w')) (KL1:Hid (∀ W,Q w W→Dsk W A n c l→Calls Tryz.prog 104 #[dkv A n c room fuse off,.string nm,.string rb] W (RetD0 W (⟨l1,room1,fuse1,off1⟩,0)))) (mb:ByteArray) (KM:Hid (∀ W,Q w W→Calls Tryz.prog 16 #[.int .i64 (seg+1),.int .i64 (run+1)] W fun e w'=>e=.returned (.string mb)∧Q W w')) (KL2:Hid (∀ W A n c,Q w W→Dsk W A n c l1→Calls Tryz.prog 104 #[dkv A n c room1 fuse1 off1,.string ⟨#[109]⟩,.string mb] W (RetD0 W (⟨l2,room2,fuse2,off2⟩,er2)))) (h0:er2≠0) (HK:Hid (Kr w ⟨A,n,c,B,bn,bc,C,cn,cc⟩ ⟨⟨l,room,fuse,off⟩,frm,seg,run,s,false⟩)) (KW:Hid (∀ (e:Int) W,Q w W→Calls Tryz.prog 74 #[.int .i64 e] W fun ev w'=>ev=.returned (errV a b e)∧Q W w')) (y:Ks×Int) (HR:Hid (y=(⟨⟨l2,room2,fuse2,off2⟩,frm,seg,run,s,false⟩,er2))) :
    Calls Tryz.prog 57 #[kvV ⟨A,n,c,B,bn,bc,C,cn,cc⟩ ⟨⟨l,room,fuse,off⟩,frm,seg,run,s,false⟩] w (RetE w a b y):=by
  obtain ⟨T,u,hve⟩:∃ T u,Value.iface T u=errV a b er2:=errV_is a b h0
  have KV:Hid (∀ W,Q w W→Calls Tryz.prog 74 #[.int .i64 er2] W fun ev w'=>ev=.returned (.iface T u)∧Q W w'):=Lib.hid (fun W q=>by rw [hve];exact KW.out er2 W q)
  have HV:=Lib.hid hve
  clear hve KW
  have hb:(er2 == 0)=false:=by simpa using h0
  clear h0
  have Z:Hid (Kc w (w.heap.size+1) ⟨A,n,c,B,bn,bc,C,cn,cc⟩ ⟨⟨l,room,fuse,off⟩,frm,seg,run,s,false⟩ ((w.alloc (.cells #[.slice A n c,.int .i64 room,.int .i64 fuse,.bool off,.int .i64 frm,.int .i64 seg,.int .i64 run,.slice B bn bc,.slice C cn cc,.bool false] 32)).alloc (.cells #[.slice none 0 0,.int .i64 0,.int .i64 0,.bool false,.int .i64 0,.int .i64 0,.int .i64 0,.slice none 0 0,.slice none 0 0,.bool false] 32))):=Lib.hid (Kc.two HK.out)
  go_enter Tryz.func57,Tryz.ntmps57
  go_upto_region 1 with (fail)
  generalize ((w.alloc (.cells #[.slice A n c,.int .i64 room,.int .i64 fuse,.bool off,.int .i64 frm,.int .i64 seg,.int .i64 run,.slice B bn bc,.slice C cn cc,.bool false] 32)).alloc (.cells #[.slice none 0 0,.int .i64 0,.int .i64 0,.bool false,.int .i64 0,.int .i64 0,.int .i64 0,.slice none 0 0,.slice none 0 0,.bool false] 32))=W at Z ⊢
  clear HK
  obtain ⟨e0,e1,e2,e3,e4,e5,e6,e7,e8,e9⟩:=kget Z.out.kb.box
  obtain ⟨f0,f1,f2,f3,f4,f5,f6,f7,f8,f9⟩:=kfree Z.out.kb.box
  go_upto_region 6 with (fail)
  go_wp2_with fail
  refine (KP.out _ Z.out.q).mono ?_
  rintro e w1 ⟨A1,c1,rfl,o1,q1⟩
  have Z:=Lib.hid (Z.out.step q1)
  have O1:=Lib.hid o1.lst
  clear o1 q1
  go_wp2_with fail
  refine (KB.out _ A1 c1 O1.out).mono ?_
  rintro e w3 ⟨rfl,q3⟩
  have Z:=Lib.hid (Z.out.step q3)
  clear q3 O1 e0 e1 e2 e3 e4 e5 e6 e7 e8 e9 f0 f1 f2 f3 f4 f5 f6 f7 f8 f9
  obtain ⟨e0,e1,e2,e3,e4,e5,e6,e7,e8,e9⟩:=kget Z.out.kb.box
  obtain ⟨f0,f1,f2,f3,f4,f5,f6,f7,f8,f9⟩:=kfree Z.out.kb.box
  go_upto_region 10 with (fail)
  have Z:=Lib.hid (Ke.new Z.out)
  generalize w3.alloc (.cells #[.slice A n c,.int .i64 room,.int .i64 fuse,.bool off,.int .i64 frm,.int .i64 seg,.int .i64 run,.slice B bn bc,.slice C cn cc,.bool false] 32)=W2 at Z ⊢
  generalize w3.heap.size=gE at Z ⊢
  clear e0 e1 e2 e3 e4 e5 e6 e7 e8 e9 f0 f1 f2 f3 f4 f5 f6 f7 f8 f9
  obtain ⟨e0,e1,e2,e3,e4,e5,e6,e7,e8,e9⟩:=kget Z.out.kc.kb.box
  obtain ⟨f0,f1,f2,f3,f4,f5,f6,f7,f8,f9⟩:=kfree Z.out.kc.kb.box
  go_cut [7,8] (fun s7 s8 wx=>s7=.int .i64 (seg+1)∧s8=.int .i64 (run+1)∧Q W2 wx)
  case first =>
   refine wp_region_held_drew (S:=Q W2) (by kernel_rfl) ?szz114 (fun hHeld=>?rzz114)
   case szz114 =>
    exact (Q.refl W2).drew
   generalize hgen:W2.drew=D0 at hHeld ⊢
   clear hgen
   refine takeH 0 ?v115 ?y115 ?_
   case y115=>intro w hSw;obtain ⟨z0,z1,z2,z3,z4,z5,z6,z7,z8,z9⟩:=box10 hSw e0 e1 e2 e3 e4 e5 e6 e7 e8 e9;clear hSw;go_simp;try with_reducible rfl
   refine takeH 1 ?v116 ?y116 ?_
   case y116=>intro w hSw;obtain ⟨z0,z1,z2,z3,z4,z5,z6,z7,z8,z9⟩:=box10 hSw e0 e1 e2 e3 e4 e5 e6 e7 e8 e9;clear hSw;go_simp;try with_reducible rfl
   refine takeH 2 ?v117 ?y117 ?_
   case y117=>intro w hSw;obtain ⟨z0,z1,z2,z3,z4,z5,z6,z7,z8,z9⟩:=box10 hSw e0 e1 e2 e3 e4 e5 e6 e7 e8 e9;clear hSw;go_simp;try with_reducible rfl
   refine wpAnyH_ready (rs:=[3,6]) (by kernel_rfl) (by simp) ?_
   refine consH (fun K hK=>?kzz133) ?_
   case kzz133 =>
    go_simp
    refine hK.out _ _ ?Szz133 (fun hHeld=>?_)
    case Szz133 =>
     exact hHeld
    clear hK K
    try simp only [Act.put,sA,sB,sC]
    refine wpAnyH_ready (rs:=[4,6]) (by kernel_rfl) (by simp) ?_
    refine consH (fun K hK=>?kzz127) ?_
    case kzz127 =>
     have hSw:=hHeld
     obtain ⟨z0,z1,z2,z3,z4,z5,z6,z7,z8,z9⟩:=box10 hSw e0 e1 e2 e3 e4 e5 e6 e7 e8 e9;clear hSw
     go_simp
     refine hK.out _ _ ?Szz127 (fun hHeld=>?_)
     case Szz127 =>
      exact hHeld
     clear hK K
     try simp only [Act.put,sA,sB,sC]
     refine wpAnyH_ready (rs:=[5,6]) (by kernel_rfl) (by simp) ?_
     refine consH (fun K hK=>?kzz122) ?_
     case kzz122 =>
      go_simp
      refine hK.out _ _ ?Szz122 (fun hHeld=>?_)
      case Szz122 =>
       exact hHeld
      clear hK K
      try simp only [Act.put,sA,sB,sC]
      refine takeH 6 ?v118 ?y118 ?_
      case y118=>intro w hSw;obtain ⟨z0,z1,z2,z3,z4,z5,z6,z7,z8,z9⟩:=box10 hSw e0 e1 e2 e3 e4 e5 e6 e7 e8 e9;clear hSw;go_simp;try with_reducible rfl
      refine takeH 7 ?v119 ?y119 ?_
      case y119=>intro w hSw;obtain ⟨z0,z1,z2,z3,z4,z5,z6,z7,z8,z9⟩:=box10 hSw e0 e1 e2 e3 e4 e5 e6 e7 e8 e9;clear hSw;go_simp;try with_reducible rfl
      refine wpAnyH_done (by kernel_rfl) ?_ _
      go_wp2_with fail
      go_meet
      exact ⟨by rw [IntWalk.i64_in (seg+1) (by omega)],by rw [IntWalk.i64_in (run+1) (by omega)],hHeld⟩
     refine consH (fun K hK=>?_) AllReadyH.nil
     go_simp
     refine hK.out _ _ ?Szz123 (fun hHeld=>?_)
     case Szz123 =>
      exact hHeld
     clear hK K
     try simp only [Act.put,sA,sB,sC]
     refine takeH 5 ?v120 ?y120 ?_
     case y120=>intro w hSw;obtain ⟨z0,z1,z2,z3,z4,z5,z6,z7,z8,z9⟩:=box10 hSw e0 e1 e2 e3 e4 e5 e6 e7 e8 e9;clear hSw;go_simp;try with_reducible rfl
     refine takeH 7 ?v121 ?y121 ?_
     case y121=>intro w hSw;obtain ⟨z0,z1,z2,z3,z4,z5,z6,z7,z8,z9⟩:=box10 hSw e0 e1 e2 e3 e4 e5 e6 e7 e8 e9;clear hSw;go_simp;try with_reducible rfl
     refine wpAnyH_done (by kernel_rfl) ?_ _
     go_wp2_with fail
     go_meet
     exact ⟨by rw [IntWalk.i64_in (seg+1) (by omega)],by rw [IntWalk.i64_in (run+1) (by omega)],hHeld⟩
    refine consH (fun K hK=>?_) AllReadyH.nil
    go_simp
    refine hK.out _ _ ?Szz128 (fun hHeld=>?_)
    case Szz128 =>
     exact hHeld
    clear hK K
    try simp only [Act.put,sA,sB,sC]
    refine takeH 4 ?v124 ?y124 ?_
    case y124=>intro w hSw;obtain ⟨z0,z1,z2,z3,z4,z5,z6,z7,z8,z9⟩:=box10 hSw e0 e1 e2 e3 e4 e5 e6 e7 e8 e9;clear hSw;go_simp;try with_reducible rfl
    refine takeH 5 ?v125 ?y125 ?_
    case y125=>intro w hSw;obtain ⟨z0,z1,z2,z3,z4,z5,z6,z7,z8,z9⟩:=box10 hSw e0 e1 e2 e3 e4 e5 e6 e7 e8 e9;clear hSw;go_simp;try with_reducible rfl
    refine takeH 7 ?v126 ?y126 ?_
    case y126=>intro w hSw;obtain ⟨z0,z1,z2,z3,z4,z5,z6,z7,z8,z9⟩:=box10 hSw e0 e1 e2 e3 e4 e5 e6 e7 e8 e9;clear hSw;go_simp;try with_reducible rfl
    refine wpAnyH_done (by kernel_rfl) ?_ _
    go_wp2_with fail
    go_meet
    exact ⟨by rw [IntWalk.i64_in (seg+1) (by omega)],by rw [IntWalk.i64_in (run+1) (by omega)],hHeld⟩
   refine consH (fun K hK=>?_) AllReadyH.nil
   go_simp
   refine hK.out _ _ ?Szz134 (fun hHeld=>?_)
   case Szz134 =>
    exact hHeld
   clear hK K
   try simp only [Act.put,sA,sB,sC]
   refine takeH 3 ?v129 ?y129 ?_
   case y129=>intro w hSw;obtain ⟨z0,z1,z2,z3,z4,z5,z6,z7,z8,z9⟩:=box10 hSw e0 e1 e2 e3 e4 e5 e6 e7 e8 e9;clear hSw;go_simp;try with_reducible rfl
   refine takeH 4 ?v130 ?y130 ?_
   case y130=>intro w hSw;obtain ⟨z0,z1,z2,z3,z4,z5,z6,z7,z8,z9⟩:=box10 hSw e0 e1 e2 e3 e4 e5 e6 e7 e8 e9;clear hSw;go_simp;try with_reducible rfl
   refine takeH 5 ?v131 ?y131 ?_
   case y131=>intro w hSw;obtain ⟨z0,z1,z2,z3,z4,z5,z6,z7,z8,z9⟩:=box10 hSw e0 e1 e2 e3 e4 e5 e6 e7 e8 e9;clear hSw;go_simp;try with_reducible rfl
   refine takeH 7 ?v132 ?y132 ?_
   case y132=>intro w hSw;obtain ⟨z0,z1,z2,z3,z4,z5,z6,z7,z8,z9⟩:=box10 hSw e0 e1 e2 e3 e4 e5 e6 e7 e8 e9;clear hSw;go_simp;try with_reducible rfl
   refine wpAnyH_done (by kernel_rfl) ?_ _
   go_wp2_with fail
   go_meet
   exact ⟨by rw [IntWalk.i64_in (seg+1) (by omega)],by rw [IntWalk.i64_in (run+1) (by omega)],hHeld⟩
  case rest =>
   obtain ⟨rfl,rfl,qc⟩:=hcut
   have Z:=Lib.hid (Z.out.step qc)
   clear qc e0 e1 e2 e3 e4 e5 e6 e7 e8 e9 f0 f1 f2 f3 f4 f5 f6 f7 f8 f9
   generalize wc=W3 at Z ⊢
   obtain ⟨e0,e1,e2,e3,e4,e5,e6,e7,e8,e9⟩:=kget Z.out.kc.kb.box
   obtain ⟨f0,f1,f2,f3,f4,f5,f6,f7,f8,f9⟩:=kfree Z.out.kc.kb.box
   go_upto_region 11 with (fail)
   go_cut [5] (fun s5 wx=>∃ (A4:Option Addr) (n4 c4:Nat),s5=.int .i64 0∧Ke w ⟨A4,n4,c4,B,bn,bc,C,cn,cc⟩ ⟨⟨l1,room1,fuse1,off1⟩,frm,seg,run,s,false⟩ gE ⟨A,n,c,B,bn,bc,C,cn,cc⟩ ⟨⟨l,room,fuse,off⟩,frm,seg,run,s,false⟩ wx)
   case first =>
    refine wp_region_heldL 10 (Q W3) (by kernel_rfl) ?szz94 (fun hHeld=>?rzz94)
    case szz94 =>
     exact (Q.refl W3).drew
    generalize hgen:W3.drew=D0 at hHeld ⊢
    clear hgen
    refine takeL 0 ?v95 ?y95 ?_
    case y95=>intro w hSw;obtain ⟨z0,z1,z2,z3,z4,z5,z6,z7,z8,z9⟩:=box10 hSw e0 e1 e2 e3 e4 e5 e6 e7 e8 e9;clear hSw;go_simp;try with_reducible rfl
    refine takeL 1 ?v96 ?y96 ?_
    case y96=>intro w hSw;obtain ⟨z0,z1,z2,z3,z4,z5,z6,z7,z8,z9⟩:=box10 hSw e0 e1 e2 e3 e4 e5 e6 e7 e8 e9;clear hSw;go_simp;try with_reducible rfl
    refine takeL 2 ?v97 ?y97 ?_
    case y97=>intro w hSw;obtain ⟨z0,z1,z2,z3,z4,z5,z6,z7,z8,z9⟩:=box10 hSw e0 e1 e2 e3 e4 e5 e6 e7 e8 e9;clear hSw;go_simp;try with_reducible rfl
    refine takeL 4 ?v98 ?y98 ?_
    case y98=>intro w hSw;obtain ⟨z0,z1,z2,z3,z4,z5,z6,z7,z8,z9⟩:=box10 hSw e0 e1 e2 e3 e4 e5 e6 e7 e8 e9;clear hSw;go_simp;try with_reducible rfl
    refine oneL 3 (fun K hK=>?_)
    go_simp
    refine (KN.out _ (Z.out.kc.q.trans hHeld)).mono ?_
    rintro e u1 ⟨rfl,q1⟩
    go_wp2_with fail
    refine hK.out _ _ ?Szz113 (fun hHeld=>?_)
    case Szz113 =>
     exact hHeld.trans q1
    clear hK K
    try simp only [Act.put,sA,sB,sC]
    refine oneL 5 (fun K hK=>?_)
    go_simp
    refine (KL1.out _ (Z.out.kc.q.trans hHeld) ((Z.out.kc.kb.is.dsk).q hHeld)).mono ?_
    rintro e u2 ⟨A4,n4,c4,rfl,hd4,q2⟩
    have HD:=Lib.hid hd4
    go_wp2_with fail
    refine hK.out _ _ ?Szz112 (fun hHeld=>?_)
    case Szz112 =>
     exact hHeld.trans q2
    clear hK K
    try simp only [Act.put,sA,sB,sC]
    refine takeL 6 ?v99 ?y99 ?_
    case y99=>intro w hSw;obtain ⟨z0,z1,z2,z3,z4,z5,z6,z7,z8,z9⟩:=box10 hSw e0 e1 e2 e3 e4 e5 e6 e7 e8 e9;clear hSw;go_simp;try with_reducible rfl
    refine takeL 7 ?v100 ?y100 ?_
    case y100=>intro w hSw;obtain ⟨z0,z1,z2,z3,z4,z5,z6,z7,z8,z9⟩:=box10 hSw e0 e1 e2 e3 e4 e5 e6 e7 e8 e9;clear hSw;go_simp;try with_reducible rfl
    refine wpAnyL_ready (rs:=[8,9]) (by kernel_rfl) (by simp) ?_
    refine consL (fun K hK=>?kzz110) ?_
    case kzz110 =>
     go_simp
     refine hK.out _ _ ?Szz110 (fun hHeld=>?_)
     case Szz110 =>
      exact hHeld
     clear hK K
     try simp only [Act.put,sA,sB,sC]
     refine takeL 9 ?v101 ?y101 ?_
     case y101=>intro w hSw;obtain ⟨z0,z1,z2,z3,z4,z5,z6,z7,z8,z9⟩:=box10 hSw e0 e1 e2 e3 e4 e5 e6 e7 e8 e9;clear hSw;go_simp;try with_reducible rfl
     refine oneK (fun K hK=>?_)
     have HZ:=Lib.hid hHeld
     obtain ⟨g0,g1,g2,g3,g4,g5,g6,g7,g8,g9⟩:=kget (Z.out.step hHeld).kc.kb.box
     obtain ⟨i0,i1,i2,i3,i4,i5,i6,i7,i8,i9⟩:=kfree (Z.out.step hHeld).kc.kb.box
     go_simp
     refine hK.out _ _ ?_
     clear hK K
     try simp only [Act.put,sA,sB,sC]
     refine takH 11 ?_
     refine wpAnyH_done (by kernel_rfl) ?_ _
     have ZZ:=Lib.hid ((Z.out.step HZ.out).disk (d2:=⟨l1,room1,fuse1,off1⟩) HD.out)
     clear Z HZ HD e0 e1 e2 e3 e4 e5 e6 e7 e8 e9 f0 f1 f2 f3 f4 f5 f6 f7 f8 f9 g0 g1 g2 g3 g4 g5 g6 g7 g8 g9 i0 i1 i2 i3 i4 i5 i6 i7 i8 i9
     go_wp2_with fail
     go_meet
     exact ⟨A4,n4,c4,rfl,ZZ.out⟩
    refine consL (fun K hK=>?_) AllReadyL.nil
    go_simp
    refine hK.out _ _ ?Szz111 (fun hHeld=>?_)
    case Szz111 =>
     exact hHeld
    clear hK K
    try simp only [Act.put,sA,sB,sC]
    refine wpAnyL_ready (rs:=[8,10]) (by kernel_rfl) (by simp) ?_
    refine consL (fun K hK=>?kzz108) ?_
    case kzz108 =>
     go_simp
     refine hK.out _ _ ?Szz108 (fun hHeld=>?_)
     case Szz108 =>
      exact hHeld
     clear hK K
     try simp only [Act.put,sA,sB,sC]
     refine oneK (fun K hK=>?_)
     have HZ:=Lib.hid hHeld
     obtain ⟨g0,g1,g2,g3,g4,g5,g6,g7,g8,g9⟩:=kget (Z.out.step hHeld).kc.kb.box
     obtain ⟨i0,i1,i2,i3,i4,i5,i6,i7,i8,i9⟩:=kfree (Z.out.step hHeld).kc.kb.box
     go_simp
     refine hK.out _ _ ?_
     clear hK K
     try simp only [Act.put,sA,sB,sC]
     refine takH 11 ?_
     refine wpAnyH_done (by kernel_rfl) ?_ _
     have ZZ:=Lib.hid ((Z.out.step HZ.out).disk (d2:=⟨l1,room1,fuse1,off1⟩) HD.out)
     clear Z HZ HD e0 e1 e2 e3 e4 e5 e6 e7 e8 e9 f0 f1 f2 f3 f4 f5 f6 f7 f8 f9 g0 g1 g2 g3 g4 g5 g6 g7 g8 g9 i0 i1 i2 i3 i4 i5 i6 i7 i8 i9
     go_wp2_with fail
     go_meet
     exact ⟨A4,n4,c4,rfl,ZZ.out⟩
    refine consK (fun K hK=>?_) AllReadyL.nil
    have HZ:=Lib.hid hHeld
    obtain ⟨g0,g1,g2,g3,g4,g5,g6,g7,g8,g9⟩:=kget (Z.out.step hHeld).kc.kb.box
    obtain ⟨i0,i1,i2,i3,i4,i5,i6,i7,i8,i9⟩:=kfree (Z.out.step hHeld).kc.kb.box
    go_simp
    refine hK.out _ _ ?_
    clear hK K
    try simp only [Act.put,sA,sB,sC]
    refine takH 8 ?_
    refine takH 11 ?_
    refine wpAnyH_done (by kernel_rfl) ?_ _
    have ZZ:=Lib.hid ((Z.out.step HZ.out).disk (d2:=⟨l1,room1,fuse1,off1⟩) HD.out)
    clear Z HZ HD e0 e1 e2 e3 e4 e5 e6 e7 e8 e9 f0 f1 f2 f3 f4 f5 f6 f7 f8 f9 g0 g1 g2 g3 g4 g5 g6 g7 g8 g9 i0 i1 i2 i3 i4 i5 i6 i7 i8 i9
    go_wp2_with fail
    go_meet
    exact ⟨A4,n4,c4,rfl,ZZ.out⟩
   case rest =>
    obtain ⟨A4,n4,c4,rfl,zz⟩:=hcut
    clear Z e0 e1 e2 e3 e4 e5 e6 e7 e8 e9 f0 f1 f2 f3 f4 f5 f6 f7 f8 f9
    have Z:=Lib.hid zz
    clear zz
    generalize wc=W4 at Z ⊢
    obtain ⟨e0,e1,e2,e3,e4,e5,e6,e7,e8,e9⟩:=kget Z.out.kc.kb.box
    obtain ⟨f0,f1,f2,f3,f4,f5,f6,f7,f8,f9⟩:=kfree Z.out.kc.kb.box
    go_upto_region 13 with (fail)
    go_cut [5] (fun s5 wx=>∃ (A5:Option Addr) (n5 c5:Nat),s5=.int .i64 er2∧Ke w ⟨A5,n5,c5,B,bn,bc,C,cn,cc⟩ ⟨⟨l2,room2,fuse2,off2⟩,frm,seg,run,s,false⟩ gE ⟨A,n,c,B,bn,bc,C,cn,cc⟩ ⟨⟨l,room,fuse,off⟩,frm,seg,run,s,false⟩ wx)
    case first =>
     refine wp_region_heldL 10 (Q W4) (by kernel_rfl) ?szz74 (fun hHeld=>?rzz74)
     case szz74 =>
      exact (Q.refl W4).drew
     generalize hgen:W4.drew=D0 at hHeld ⊢
     clear hgen
     refine takeL 0 ?v75 ?y75 ?_
     case y75=>intro w hSw;obtain ⟨z0,z1,z2,z3,z4,z5,z6,z7,z8,z9⟩:=box10 hSw e0 e1 e2 e3 e4 e5 e6 e7 e8 e9;clear hSw;go_simp;try with_reducible rfl
     refine takeL 1 ?v76 ?y76 ?_
     case y76=>intro w hSw;obtain ⟨z0,z1,z2,z3,z4,z5,z6,z7,z8,z9⟩:=box10 hSw e0 e1 e2 e3 e4 e5 e6 e7 e8 e9;clear hSw;go_simp;try with_reducible rfl
     refine takeL 2 ?v77 ?y77 ?_
     case y77=>intro w hSw;obtain ⟨z0,z1,z2,z3,z4,z5,z6,z7,z8,z9⟩:=box10 hSw e0 e1 e2 e3 e4 e5 e6 e7 e8 e9;clear hSw;go_simp;try with_reducible rfl
     refine takeL 3 ?v78 ?y78 ?_
     case y78=>intro w hSw;obtain ⟨z0,z1,z2,z3,z4,z5,z6,z7,z8,z9⟩:=box10 hSw e0 e1 e2 e3 e4 e5 e6 e7 e8 e9;clear hSw;go_simp;try with_reducible rfl
     refine oneL 4 (fun K hK=>?_)
     go_simp
     refine (KM.out _ (Z.out.kc.q.trans hHeld)).mono ?_
     rintro e u1 ⟨rfl,q1⟩
     go_wp2_with fail
     refine hK.out _ _ ?Szz93 (fun hHeld=>?_)
     case Szz93 =>
      exact hHeld.trans q1
     clear hK K
     try simp only [Act.put,sA,sB,sC]
     refine oneL 5 (fun K hK=>?_)
     go_simp
     refine (KL2.out _ A4 n4 c4 (Z.out.kc.q.trans hHeld) ((Z.out.kc.kb.is.dsk).q hHeld)).mono ?_
     rintro e u2 ⟨A5,n5,c5,rfl,hd5,q2⟩
     have HD:=Lib.hid hd5
     go_wp2_with fail
     refine hK.out _ _ ?Szz92 (fun hHeld=>?_)
     case Szz92 =>
      exact hHeld.trans q2
     clear hK K
     try simp only [Act.put,sA,sB,sC]
     refine takeL 6 ?v79 ?y79 ?_
     case y79=>intro w hSw;obtain ⟨z0,z1,z2,z3,z4,z5,z6,z7,z8,z9⟩:=box10 hSw e0 e1 e2 e3 e4 e5 e6 e7 e8 e9;clear hSw;go_simp;try with_reducible rfl
     refine takeL 7 ?v80 ?y80 ?_
     case y80=>intro w hSw;obtain ⟨z0,z1,z2,z3,z4,z5,z6,z7,z8,z9⟩:=box10 hSw e0 e1 e2 e3 e4 e5 e6 e7 e8 e9;clear hSw;go_simp;try with_reducible rfl
     refine wpAnyL_ready (rs:=[8,9]) (by kernel_rfl) (by simp) ?_
     refine consL (fun K hK=>?kzz90) ?_
     case kzz90 =>
      go_simp
      refine hK.out _ _ ?Szz90 (fun hHeld=>?_)
      case Szz90 =>
       exact hHeld
      clear hK K
      try simp only [Act.put,sA,sB,sC]
      refine takeL 9 ?v81 ?y81 ?_
      case y81=>intro w hSw;obtain ⟨z0,z1,z2,z3,z4,z5,z6,z7,z8,z9⟩:=box10 hSw e0 e1 e2 e3 e4 e5 e6 e7 e8 e9;clear hSw;go_simp;try with_reducible rfl
      refine oneK (fun K hK=>?_)
      have HZ:=Lib.hid hHeld
      obtain ⟨g0,g1,g2,g3,g4,g5,g6,g7,g8,g9⟩:=kget (Z.out.step hHeld).kc.kb.box
      obtain ⟨i0,i1,i2,i3,i4,i5,i6,i7,i8,i9⟩:=kfree (Z.out.step hHeld).kc.kb.box
      go_simp
      refine hK.out _ _ ?_
      clear hK K
      try simp only [Act.put,sA,sB,sC]
      refine takH 11 ?_
      refine wpAnyH_done (by kernel_rfl) ?_ _
      have ZZ:=Lib.hid ((Z.out.step HZ.out).disk (d2:=⟨l2,room2,fuse2,off2⟩) HD.out)
      clear Z HZ HD e0 e1 e2 e3 e4 e5 e6 e7 e8 e9 f0 f1 f2 f3 f4 f5 f6 f7 f8 f9 g0 g1 g2 g3 g4 g5 g6 g7 g8 g9 i0 i1 i2 i3 i4 i5 i6 i7 i8 i9
      go_wp2_with fail
      go_meet
      exact ⟨A5,n5,c5,rfl,ZZ.out⟩
     refine consL (fun K hK=>?_) AllReadyL.nil
     go_simp
     refine hK.out _ _ ?Szz91 (fun hHeld=>?_)
     case Szz91 =>
      exact hHeld
     clear hK K
     try simp only [Act.put,sA,sB,sC]
     refine wpAnyL_ready (rs:=[8,10]) (by kernel_rfl) (by simp) ?_
     refine consL (fun K hK=>?kzz88) ?_
     case kzz88 =>
      go_simp
      refine hK.out _ _ ?Szz88 (fun hHeld=>?_)
      case Szz88 =>
       exact hHeld
      clear hK K
      try simp only [Act.put,sA,sB,sC]
      refine oneK (fun K hK=>?_)
      have HZ:=Lib.hid hHeld
      obtain ⟨g0,g1,g2,g3,g4,g5,g6,g7,g8,g9⟩:=kget (Z.out.step hHeld).kc.kb.box
      obtain ⟨i0,i1,i2,i3,i4,i5,i6,i7,i8,i9⟩:=kfree (Z.out.step hHeld).kc.kb.box
      go_simp
      refine hK.out _ _ ?_
      clear hK K
      try simp only [Act.put,sA,sB,sC]
      refine takH 11 ?_
      refine wpAnyH_done (by kernel_rfl) ?_ _
      have ZZ:=Lib.hid ((Z.out.step HZ.out).disk (d2:=⟨l2,room2,fuse2,off2⟩) HD.out)
      clear Z HZ HD e0 e1 e2 e3 e4 e5 e6 e7 e8 e9 f0 f1 f2 f3 f4 f5 f6 f7 f8 f9 g0 g1 g2 g3 g4 g5 g6 g7 g8 g9 i0 i1 i2 i3 i4 i5 i6 i7 i8 i9
      go_wp2_with fail
      go_meet
      exact ⟨A5,n5,c5,rfl,ZZ.out⟩
     refine consK (fun K hK=>?_) AllReadyL.nil
     have HZ:=Lib.hid hHeld
     obtain ⟨g0,g1,g2,g3,g4,g5,g6,g7,g8,g9⟩:=kget (Z.out.step hHeld).kc.kb.box
     obtain ⟨i0,i1,i2,i3,i4,i5,i6,i7,i8,i9⟩:=kfree (Z.out.step hHeld).kc.kb.box
     go_simp
     refine hK.out _ _ ?_
     clear hK K
     try simp only [Act.put,sA,sB,sC]
     refine takH 8 ?_
     refine takH 11 ?_
     refine wpAnyH_done (by kernel_rfl) ?_ _
     have ZZ:=Lib.hid ((Z.out.step HZ.out).disk (d2:=⟨l2,room2,fuse2,off2⟩) HD.out)
     clear Z HZ HD e0 e1 e2 e3 e4 e5 e6 e7 e8 e9 f0 f1 f2 f3 f4 f5 f6 f7 f8 f9 g0 g1 g2 g3 g4 g5 g6 g7 g8 g9 i0 i1 i2 i3 i4 i5 i6 i7 i8 i9
     go_wp2_with fail
     go_meet
     exact ⟨A5,n5,c5,rfl,ZZ.out⟩
    case rest =>
     obtain ⟨A5,n5,c5,rfl,zz⟩:=hcut
     clear Z e0 e1 e2 e3 e4 e5 e6 e7 e8 e9 f0 f1 f2 f3 f4 f5 f6 f7 f8 f9
     have Z:=Lib.hid zz
     clear zz
     generalize wc=W5 at Z ⊢
     have Y:=Lib.hid Z.out.kc
     clear Z
     obtain ⟨e0,e1,e2,e3,e4,e5,e6,e7,e8,e9⟩:=kget Y.out.kb.box
     obtain ⟨f0,f1,f2,f3,f4,f5,f6,f7,f8,f9⟩:=kfree Y.out.kb.box
     go_upto_region 17 with (fail)
     refine wp_region_held_drew (S:=fun w'=>Bx w' w.heap.size (kL ⟨A5,n5,c5,B,bn,bc,C,cn,cc⟩ ⟨⟨l2,room2,fuse2,off2⟩,frm,seg,run,s,false⟩)) (by kernel_rfl) ?szz68 (fun hHeld=>?rzz68)
     case szz68 =>
      exact Y.out.kb.box.drew
     refine takeH 0 ?v69 ?y69 ?_
     case y69=>intro w hSw;obtain ⟨s0,s1,s2,s3,s4,s5,s6,s7,s8,s9⟩:=kget hSw;go_simp;try with_reducible rfl
     refine tadH 1 ?_
     refine oneH 2 (fun K hK=>?_)
     go_simp
     refine (KV.out _ (Y.out.q.trans (Q.refl _).drew)).mono ?_
     rintro e w4 ⟨rfl,q4⟩
     have V:=Lib.hid (Y.out.step ((Q.refl _).drew.trans q4))
     have F:Hid (RetE w a b (⟨⟨l2,room2,fuse2,off2⟩,frm,seg,run,s,false⟩,er2) (.returned (.tuple #[kvV ⟨A5,n5,c5,B,bn,bc,C,cn,cc⟩ ⟨⟨l2,room2,fuse2,off2⟩,frm,seg,run,s,false⟩,.iface T u])) ((((((((((w4.setCell ⟨w.heap.size+1,0,none⟩ (.slice A5 n5 c5)).setCell ⟨w.heap.size+1,1,none⟩ (.int .i64 room2)).setCell ⟨w.heap.size+1,2,none⟩ (.int .i64 fuse2)).setCell ⟨w.heap.size+1,3,none⟩ (.bool off2)).setCell ⟨w.heap.size+1,4,none⟩ (.int .i64 frm)).setCell ⟨w.heap.size+1,5,none⟩ (.int .i64 seg)).setCell ⟨w.heap.size+1,6,none⟩ (.int .i64 run)).setCell ⟨w.heap.size+1,7,none⟩ (.slice B bn bc)).setCell ⟨w.heap.size+1,8,none⟩ (.slice C cn cc)).setCell ⟨w.heap.size+1,9,none⟩ (.bool false))):=Lib.hid (by rw [HV.out];exact V.out.finE V.out.kb.is a b er2)
     have R:Hid (Bx ((((((((((w4.setCell ⟨w.heap.size+1,0,none⟩ (.slice A5 n5 c5)).setCell ⟨w.heap.size+1,1,none⟩ (.int .i64 room2)).setCell ⟨w.heap.size+1,2,none⟩ (.int .i64 fuse2)).setCell ⟨w.heap.size+1,3,none⟩ (.bool off2)).setCell ⟨w.heap.size+1,4,none⟩ (.int .i64 frm)).setCell ⟨w.heap.size+1,5,none⟩ (.int .i64 seg)).setCell ⟨w.heap.size+1,6,none⟩ (.int .i64 run)).setCell ⟨w.heap.size+1,7,none⟩ (.slice B bn bc)).setCell ⟨w.heap.size+1,8,none⟩ (.slice C cn cc)).setCell ⟨w.heap.size+1,9,none⟩ (.bool false)) (w.heap.size+1) (kL ⟨A5,n5,c5,B,bn,bc,C,cn,cc⟩ ⟨⟨l2,room2,fuse2,off2⟩,frm,seg,run,s,false⟩)):=Lib.hid (V.out.boxR ⟨A5,n5,c5,B,bn,bc,C,cn,cc⟩ ⟨⟨l2,room2,fuse2,off2⟩,frm,seg,run,s,false⟩)
     have U:Hid (Bx ((((((((((w4.setCell ⟨w.heap.size+1,0,none⟩ (.slice A5 n5 c5)).setCell ⟨w.heap.size+1,1,none⟩ (.int .i64 room2)).setCell ⟨w.heap.size+1,2,none⟩ (.int .i64 fuse2)).setCell ⟨w.heap.size+1,3,none⟩ (.bool off2)).setCell ⟨w.heap.size+1,4,none⟩ (.int .i64 frm)).setCell ⟨w.heap.size+1,5,none⟩ (.int .i64 seg)).setCell ⟨w.heap.size+1,6,none⟩ (.int .i64 run)).setCell ⟨w.heap.size+1,7,none⟩ (.slice B bn bc)).setCell ⟨w.heap.size+1,8,none⟩ (.slice C cn cc)).setCell ⟨w.heap.size+1,9,none⟩ (.bool false)) w.heap.size (kL ⟨A5,n5,c5,B,bn,bc,C,cn,cc⟩ ⟨⟨l2,room2,fuse2,off2⟩,frm,seg,run,s,false⟩)):=Lib.hid (V.out.kb.box.far_stk (by have:=V.out.lt;omega) (us10 ⟨A5,n5,c5,B,bn,bc,C,cn,cc⟩ ⟨⟨l2,room2,fuse2,off2⟩,frm,seg,run,s,false⟩))
     go_wp2_with fail
     refine hK.out _ _ ?Szz73 (fun hHeld=>?_)
     case Szz73 =>
      exact V.out.kb.box
     clear hK K
     try simp only [Act.put,sA,sB,sC]
     refine oneH 3 (fun K hK=>?_)
     obtain ⟨g0,g1,g2,g3,g4,g5,g6,g7,g8,g9⟩:=kfree V.out.res
     obtain ⟨i0,i1,i2,i3,i4,i5,i6,i7,i8,i9⟩:=kget V.out.res
     go_simp
     refine hK.out _ _ ?Szz72 (fun hHeld=>?_)
     case Szz72 =>
      exact U.out
     clear hK K
     try simp only [Act.put,sA,sB,sC]
     refine tadH 4 ?_
     refine wpAnyH_done (by kernel_rfl) ?_ _
     clear V Y q4 U
     go_wp2
     (try rw [Exit.noGoto_ret])
     obtain ⟨r0,r1,r2,r3,r4,r5,r6,r7,r8,r9⟩:=kget R.out
     refine bodyPost_ret (v:=.tuple #[kvV ⟨A5,n5,c5,B,bn,bc,C,cn,cc⟩ ⟨⟨l2,room2,fuse2,off2⟩,frm,seg,run,s,false⟩,.iface T u]) (by simp [results,Tryz.results57,go_sem,r0,r1,r2,r3,r4,r5,r6,r7,r8,r9]) rfl ?_
     rw [HR.out]
     exact F.out
end
end Go.Proofs.YtajidconlmhjfaaGreatDoor
