/- KvOnceW, DiskInU: merged. -/
import Derived.Test.YtccoknaaofmbcaaGreatDoorO17
import Derived.Test.YtccoknaaofmbcaaGreatDoorO15
import Derived.Test.YtccoknaaofmbcaaGreatDoorO4
set_option linter.unusedVariables false
set_option linter.unusedSimpArgs false
set_option maxRecDepth 100000
set_option maxHeartbeats 16000000
open Go.Lib (hid)
namespace Go.Proofs.YtccoknaaofmbcaaGreatDoor
section
open Go.RowKit Dkm Prm Km Wm
theorem sameD_refl8 (d:Dk):sameD d d=true:=by simp[sameD]
theorem ksame_one (p q:Kp)(x:Ks)(w:World)(h1:Kr w p x)(h2:Kr w q x) :
  Calls Tryz.prog 9 #[kvV p x,kvV q x] w fun e w'=>e=.returned (.bool true)∧Q w w':=by
 have KD:=hid (fun (W:World) (y:Q w W)=>ref_same_any p.A q.A p.n p.c q.n q.c x.d x.d W (h1.dsk.files.q y) (h2.dsk.files.q y) h1.dsk.max h2.dsk.max)
 have KS:=hid (fun (W:World) (y:Q w W)=>refSameS_any p.B p.C q.B q.C p.bn p.bc p.cn p.cc q.bn q.bc q.cn q.cc x.s x.s W (h1.data.q y) (h1.toks.q y) (h2.data.q y) (h2.toks.q y))
 rw[sameD_refl8] at KD
 rw[decide_eq_true rfl] at KS
 have B1:=hid (Bx.new w (kL p x) 32)
 have B2:=hid (Bx.new (w.alloc (.cells (kL p x).toArray 32)) (kL q x) 32)
 rw[show (w.alloc (.cells (kL p x).toArray 32)).heap.size=w.heap.size+1 by simp] at B2
 obtain⟨A,n,c,B,bn,bc,C,cn,cc⟩:=p
 obtain⟨A2,n2,c2,B2',bn2,bc2,C2,cn2,cc2⟩:=q
 obtain⟨⟨l,room,fuse,off⟩,frm,seg,run,s,down⟩:=x
 simp only at KD KS
 clear h1 h2
 have X:Hid (Bx ((w.alloc (.cells #[.slice A n c,.int .i64 room,.int .i64 fuse,.bool off,.int .i64 frm,.int .i64 seg,.int .i64 run,.slice B bn bc,.slice C cn cc,.bool down] 32)).alloc (.cells #[.slice A2 n2 c2,.int .i64 room,.int .i64 fuse,.bool off,.int .i64 frm,.int .i64 seg,.int .i64 run,.slice B2' bn2 bc2,.slice C2 cn2 cc2,.bool down] 32)) w.heap.size (kL ⟨A,n,c,B,bn,bc,C,cn,cc⟩ ⟨⟨l,room,fuse,off⟩,frm,seg,run,s,down⟩)):=hid (B1.out.alloc _)
 have Y:Hid (Bx ((w.alloc (.cells #[.slice A n c,.int .i64 room,.int .i64 fuse,.bool off,.int .i64 frm,.int .i64 seg,.int .i64 run,.slice B bn bc,.slice C cn cc,.bool down] 32)).alloc (.cells #[.slice A2 n2 c2,.int .i64 room,.int .i64 fuse,.bool off,.int .i64 frm,.int .i64 seg,.int .i64 run,.slice B2' bn2 bc2,.slice C2 cn2 cc2,.bool down] 32)) (w.heap.size+1) (kL ⟨A2,n2,c2,B2',bn2,bc2,C2,cn2,cc2⟩ ⟨⟨l,room,fuse,off⟩,frm,seg,run,s,down⟩)):=B2
 have QQ:Hid (Q w ((w.alloc (.cells #[.slice A n c,.int .i64 room,.int .i64 fuse,.bool off,.int .i64 frm,.int .i64 seg,.int .i64 run,.slice B bn bc,.slice C cn cc,.bool down] 32)).alloc (.cells #[.slice A2 n2 c2,.int .i64 room,.int .i64 fuse,.bool off,.int .i64 frm,.int .i64 seg,.int .i64 run,.slice B2' bn2 bc2,.slice C2 cn2 cc2,.bool down] 32))):=hid (((Q.refl w).alloc _).alloc _)
 clear B1 B2
 go_enter Tryz.func9,Tryz.ntmps9
 go_upto_region 1 with (fail)
 generalize ((w.alloc (.cells #[.slice A n c,.int .i64 room,.int .i64 fuse,.bool off,.int .i64 frm,.int .i64 seg,.int .i64 run,.slice B bn bc,.slice C cn cc,.bool down] 32)).alloc (.cells #[.slice A2 n2 c2,.int .i64 room,.int .i64 fuse,.bool off,.int .i64 frm,.int .i64 seg,.int .i64 run,.slice B2' bn2 bc2,.slice C2 cn2 cc2,.bool down] 32))=W at X Y QQ ⊢
 obtain⟨e0,e1,e2,e3,e4,e5,e6,e7,e8,e9⟩:=kget X.out
 obtain⟨f0,f1,f2,f3,f4,f5,f6,f7,f8,f9⟩:=kget Y.out
 go_wp2_with fail
 refine(KD.out _ QQ.out).mono ?_
 rintro e w1 ⟨rfl,q1⟩
 have X1:=hid (X.out.q q1)
 have Y1:=hid (Y.out.q q1)
 have Q1:=hid (QQ.out.trans q1)
 clear q1 X Y QQ e0 e1 e2 e3 e4 e5 e6 e7 e8 e9 f0 f1 f2 f3 f4 f5 f6 f7 f8 f9
 obtain⟨e0,e1,e2,e3,e4,e5,e6,e7,e8,e9⟩:=kget X1.out
 obtain⟨f0,f1,f2,f3,f4,f5,f6,f7,f8,f9⟩:=kget Y1.out
 go_wp2_with fail
 refine(KS.out _ Q1.out).mono ?_
 rintro e w2 ⟨rfl,q2⟩
 have X2:=hid (X1.out.q q2)
 have Y2:=hid (Y1.out.q q2)
 have Q2:=hid (Q1.out.trans q2)
 clear q2 X1 Y1 Q1 e0 e1 e2 e3 e4 e5 e6 e7 e8 e9 f0 f1 f2 f3 f4 f5 f6 f7 f8 f9
 obtain⟨e0,e1,e2,e3,e4,e5,e6,e7,e8,e9⟩:=kget X2.out
 obtain⟨f0,f1,f2,f3,f4,f5,f6,f7,f8,f9⟩:=kget Y2.out
 go_wp2
 all_goals
   go_ret
   exact⟨by first | rfl | simp,by first | exact Q2.out | exact Q2.out.drew⟩
end
section
open Go.ChangeShapes Go.WideShapes Go.RowKit Dkm
theorem files_small {w:World}{A:Option Addr}{n c:Nat}{l:List Fil}(hd:Dsk w A n c l)(hu:RdU w 22 [.slice A n c]):∀ f∈l,f.sf.size≤1048576∧f.wt.size≤1048576:=by
 intro f hf
 obtain⟨i,hi,rfl⟩:=List.getElem_of_mem hf
 have hin:i<n:=by have:=hd.len;omega
 have hic:i<c:=Nat.lt_of_lt_of_le hin hd.le
 obtain⟨ad,rfl,_,c0,c1,c2⟩:=hd.files.load hin hi
 obtain⟨_,hall⟩:=hu.slice Tryz.underlying22
 rw[show Tryz.prog.cellsOf 119 = 3 by kernel_rfl] at hall
 obtain⟨cs,hc,hr⟩:=hall i hic
 obtain⟨hl,_,hat⟩:=World.cells?_some hc
 have e1:=hat 1 (by omega)
 have e2:=hat 2 (by omega)
 have c1':w.cell? ((ad.add (i*3)).add 1)=some (.string l[i].sf):=c1
 have c2':w.cell? ((ad.add (i*3)).add 2)=some (.string l[i].wt):=c2
 rw[c1'] at e1
 rw[c2'] at e2
 have r1:=hr.field Tryz.underlying119 1 (ty := 9) 1 1 rfl (by kernel_rfl)
 have r2:=hr.field Tryz.underlying119 2 (ty := 9) 2 1 rfl (by kernel_rfl)
 match cs,hl,e1,e2,r1,r2 with
 | [a,b,d],_,e1,e2,r1,r2 =>
   simp at e1 e2
   subst e1 e2
   exact⟨r1.string Tryz.underlying9,r2.string Tryz.underlying9⟩
theorem DkIn.bnd {w:World}{A:Option Addr}{n c:Nat}{d:Dk}(h:DkIn w A n c d):Wm.Bnd 2305843009213693952 d:=
 ⟨fun f hf=>by have h1:=h.fil f hf;unfold FilIn at h1;omega,by have h1:=h.dsk.len;have h2:=h.dsk.few;rw[h1];exact h2,h.room,h.fuse⟩
theorem DkIn.small {w:World}{A:Option Addr}{n c:Nat}{d:Dk}(h:DkIn w A n c d)(hu:RdU w 24 [.slice A n c,.int .i64 d.room,.int .i64 d.fuse,.bool d.off]):∀ f∈d.fs,f.sf.size≤1048576∧f.wt.size≤1048576:=by
 have r:=hu.field Tryz.underlying24 0 (ty := 22) 0 1 rfl (by kernel_rfl)
 exact files_small h.dsk r
end
end Go.Proofs.YtccoknaaofmbcaaGreatDoor
