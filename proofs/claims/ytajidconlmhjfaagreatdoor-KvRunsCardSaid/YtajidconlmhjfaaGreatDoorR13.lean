/- KvMan, KvMan2, KvBegin, BatchBack, KvLoad, KvOpen3, WalDrop, KvSweep, CompM, PresM, KvDropM, Ints, NumK, SortI, Present, DiskNs, KvSwp, KvChkL, Concat, ConcatP, BatchPairs: merged. -/
import Derived.Test.YtajidconlmhjfaaGreatDoorR6
import Derived.Test.YtajidconlmhjfaaGreatDoorR8
import Derived.Test.YtajidconlmhjfaaGreatDoorR1
import Derived.Lib.MinMax
import Derived.Test.YtajidconlmhjfaaGreatDoorR11
import Derived.Test.YtajidconlmhjfaaGreatDoorR5
import Derived.Test.YtajidconlmhjfaaGreatDoorR7
import Derived.Test.YtajidconlmhjfaaGreatDoorR12
import Derived.Test.YtajidconlmhjfaaGreatDoorShelfR
import Derived.Test.YtajidconlmhjfaaGreatDoorR4
import Derived.Test.YtajidconlmhjfaaGreatDoorR9
import Derived.Lib.SlicesCompact
import Derived.Lib.AtoiAllCases
import Derived.Lib.Strings
import Derived.Lib.OwnBridge
import Derived.Lib.AppendIntMem
import Derived.Test.YtajidconlmhjfaaGreatDoorR10
import Derived.Test.YtajidconlmhjfaaGreatDoorR2
set_option linter.unusedVariables false
set_option linter.unusedSimpArgs false
set_option maxRecDepth 100000
namespace Go.Proofs.YtajidconlmhjfaaGreatDoor
section
open Go.RowKit Dkm Prm Km
theorem runName_any (n:Int) (w:World) (hT:Tab w):Calls Tryz.prog 14 #[.int .i64 n] w fun e w'=>e=.returned (.string (rnamB n))∧Q w w':=by
 by_cases h:runOk n
 · have hR:=rnamB_size n
   have e:rnamB n=(⟨#[114]⟩:ByteArray)++⟨(Dm.dg n.toNat).toArray⟩:=by
    rw [rnamB_ok h];rw [app_lists [114]];rfl
   have hI:=itoa_any n h
   have hsz:(⟨(Dm.dg n.toNat).toArray⟩:ByteArray).size≤8:=by
    rw [e,ByteArray.size_append] at hR;omega
   have HE:=Lib.hid e
   have HT:=Lib.hid hT
   obtain ⟨h1,h2⟩:=h
   have h3:¬ n<1:=by omega
   have h4:¬ 1000000<n:=by omega
   clear e hR hT
   generalize (⟨(Dm.dg n.toNat).toArray⟩:ByteArray)=R at hI HE hsz
   go_enter Tryz.func14,Tryz.ntmps14
   go_wp2_with fail
   refine (hI _ HT.out).mono ?_
   rintro e w2 ⟨rfl,q2⟩
   go_wp2
   go_ret
   exact ⟨by rw [HE.out];rfl,q2⟩
 · rw [rnamB_no h]
   have hc:n<1∨¬ n<1∧1000000<n:=by unfold runOk at h;omega
   clear h
   rcases hc with h1 | ⟨h1,h2⟩
   all_goals
     go_enter Tryz.func14,Tryz.ntmps14
     go_wp2
     go_ret
     exact ⟨rfl,Q.refl _⟩
theorem manifest_any (f r:Int) (w:World) (hf:f≤9223372036854775807) (hr:r≤9223372036854775807):Calls Tryz.prog 16 #[.int .i64 f,.int .i64 r] w fun e w'=>e=.returned (.string (manB f r))∧Q w w':=by
 have KF:=Lib.hid (fun W=>num_any (max f 0) W (by omega) (by omega))
 have KR:=Lib.hid (fun W=>num_any (max r 0) W (by omega) (by omega))
 have l1:=Dm.num_length (max f 0).toNat (by omega)
 have l2:=Dm.num_length (max r 0).toNat (by omega)
 have hm:manB f r=⟨(sld ((⟨(Dm.num (max f 0).toNat).toArray⟩:ByteArray)++⟨(Dm.num (max r 0).toNat).toArray⟩).data.toList).toArray⟩:=by
  unfold manB manL
  rw [show (max f 0).toNat=f.toNat by omega,show (max r 0).toNat=r.toNat by omega,app_lists]
 have hz1:(⟨(Dm.num (max f 0).toNat).toArray⟩:ByteArray).size≤100:=by show (Dm.num (max f 0).toNat).toArray.size≤100;simp;omega
 have hz2:(⟨(Dm.num (max r 0).toNat).toArray⟩:ByteArray).size≤100:=by show (Dm.num (max r 0).toNat).toArray.size≤100;simp;omega
 have HM:=Lib.hid hm
 have m0:0≤max f 0:=by omega
 have m1:max f 0≤9223372036854775807:=by omega
 have m2:0≤max r 0:=by omega
 have m3:max r 0≤9223372036854775807:=by omega
 clear hm l1 l2
 generalize (⟨(Dm.num (max f 0).toNat).toArray⟩:ByteArray)=x at KF HM hz1
 generalize (⟨(Dm.num (max r 0).toNat).toArray⟩:ByteArray)=y at KR HM hz2
 go_enter Tryz.func16,Tryz.ntmps16
 go_wp2_with fail
 refine (KF.out _).mono ?_
 rintro e w1 ⟨rfl,q1⟩
 have Q1:=Lib.hid q1
 clear q1
 go_wp2_with fail
 refine (KR.out _).mono ?_
 rintro e w2 ⟨rfl,q2⟩
 have Q2:=Lib.hid (Q1.out.trans q2)
 clear q2
 go_wp2_with fail
 refine (seal_any _ _ (by rw [ByteArray.size_append];omega)).mono ?_
 rintro e w3 ⟨rfl,q3⟩
 go_wp2
 go_ret
 exact ⟨ret_str (by rw [HM.out,ByteArray.data_append,Array.toList_append]),Q2.out.trans q3⟩
end
section
open Go.RowKit Dkm Prm Km Wm
end
section
open Go.RowKit Dkm Prm Km Wm
end
section
open Go.RowKit Prm
section
variable {w wi wj:World} {A B:Option Addr} {n c m d:Nat} {s:Bm.Sta}
end
namespace Bm
end Bm
end
section
open Go.RowKit Dkm Km Wm
structure Pl (w:World) (A:Option Addr) (n c:Nat) (d:Dk) (wi:World):Prop where
  db:Bx wi w.heap.size [.slice A n c,.int .i64 d.room,.int .i64 d.fuse,.bool d.off]
  res:Bx wi (w.heap.size+1) [.slice none 0 0,.slice none 0 0]
  dsk:Dsk wi A n c d.fs
  q:Q w wi
section
variable {w wi wj:World} {A B C:Option Addr} {n c bn bc cn cc:Nat} {d:Dk} {s:Bm.Sta}
theorem Pl.new (h:Dsk w A n c d.fs):Pl w A n c d ((w.alloc (.cells #[.slice A n c,.int .i64 d.room,.int .i64 d.fuse,.bool d.off] 24)).alloc (.cells #[.slice none 0 0,.slice none 0 0] 30)):=by
 refine ⟨(Bx.new w [.slice A n c,.int .i64 d.room,.int .i64 d.fuse,.bool d.off] 24).alloc _,?_,h.q (((Q.refl w).alloc _).alloc _),((Q.refl w).alloc _).alloc _⟩
 have:=Bx.new (w.alloc (.cells #[.slice A n c,.int .i64 d.room,.int .i64 d.fuse,.bool d.off] 24)) [.slice none 0 0,.slice none 0 0] 30
 rw [show (w.alloc (.cells #[.slice A n c,.int .i64 d.room,.int .i64 d.fuse,.bool d.off] 24)).heap.size=w.heap.size+1 by simp] at this
 exact this
theorem Pl.step (h:Pl w A n c d wi) (q:Q wi wj):Pl w A n c d wj:=⟨h.db.q q,h.res.q q,h.dsk.q q,h.q.trans q⟩
theorem Pl.fin (h:Pl w A n c d wi) (hB:In_ pairK wi B bn bc s.data) (hC:In_ pairK wi C cn cc s.toks) :
    Bx ((wi.setCell ⟨w.heap.size+1,0,none⟩ (.slice B bn bc)).setCell ⟨w.heap.size+1,1,none⟩ (.slice C cn cc)) (w.heap.size+1) [.slice B bn bc,.slice C cn cc] ∧
    In_ pairK ((wi.setCell ⟨w.heap.size+1,0,none⟩ (.slice B bn bc)).setCell ⟨w.heap.size+1,1,none⟩ (.slice C cn cc)) B bn bc s.data ∧
    In_ pairK ((wi.setCell ⟨w.heap.size+1,0,none⟩ (.slice B bn bc)).setCell ⟨w.heap.size+1,1,none⟩ (.slice C cn cc)) C cn cc s.toks ∧
    Q w ((wi.setCell ⟨w.heap.size+1,0,none⟩ (.slice B bn bc)).setCell ⟨w.heap.size+1,1,none⟩ (.slice C cn cc)):=by
  have h1:=hB.stk h.res (nt2 _ _ _ _ _ _) [(0,Value.slice B bn bc),(1,.slice C cn cc)] (us2_ok _ _ _ _ _ _ _ _)
  have h2:=hC.stk h.res (nt2 _ _ _ _ _ _) [(0,Value.slice B bn bc),(1,.slice C cn cc)] (us2_ok _ _ _ _ _ _ _ _)
  exact ⟨h.res.set2 _ _,h1,h2,h.q.set2 (Nat.le_succ _) _ _⟩
end
end
section
open Go.RowKit Dkm Prm Km Wm
end
section
open Go.RowKit Dkm Wm
def fil (from_ til:Int) (ks:List Int):List Int:=ks.filter fun k=>decide (from_≤k∧k<til)
theorem fil_no {from_ til k:Int} {ks:List Int} (h:¬ (from_≤k∧k<til)):fil from_ til (k :: ks)=fil from_ til ks:=by
 unfold fil;rw [List.filter_cons_of_neg (by simpa using h)]
theorem fil_yes {from_ til k:Int} {ks:List Int} (h:from_≤k∧k<til):fil from_ til (k :: ks)=k :: fil from_ til ks:=by
 unfold fil;rw [List.filter_cons_of_pos (by simpa using h)]
theorem Ints.away {w:World} {K:Option Addr} {n:Nat} {l:List Int} (h:Ints w K n l) {b:Nat} (hf:∀ ad,K=some ad→ad.block≠b) (o:Nat) (v:Value):Ints (w.setCell ⟨b,o,none⟩ v) K n l:=by
 refine ⟨h.1,fun j u hj=>?_⟩
 obtain ⟨ad,e,hb,hc⟩:=h.2 j u hj
 refine ⟨ad,e,by simpa [World.setCell] using hb,?_⟩
 have hne:(⟨b,o,none⟩:Addr)≠ad.add j:=by
  intro e2
  have:=congrArg Addr.block e2
  have h2:(ad.add j).block=ad.block:=by unfold Addr.add;split<;>rfl
  rw [h2] at this
  exact hf ad e this.symm
 rw [World.cell?_setCell_other _ _ _ _ hne]
 exact hc
def RetPr (w:World) (ks:List Int) (e:Ending) (w':World):Prop:=
  ∃ K kn kc,e=.returned (.slice K kn kc)∧Ints w' K kn ks∧kn≤maxLen∧(∀ ad,K=some ad→w.heap.size≤ad.block)∧Q w w'
theorem Sv.endF {w wr:World} {A:Option Addr} {n c:Nat} {d:Dk} (h:Sv w A n c d wr) (hf:Far w A) (er:Int) (x y z u:Value) :
    ∃ A' n' c',Ending.returned (.tuple #[dkv A n c d.room d.fuse d.off,.int .i64 er])=.returned (.tuple #[dkv A' n' c' d.room d.fuse d.off,.int .i64 er])∧Dsk ((((wr.setCell ⟨w.heap.size+1,0,none⟩ x).setCell ⟨w.heap.size+1,1,none⟩ y).setCell ⟨w.heap.size+1,2,none⟩ z).setCell ⟨w.heap.size+1,3,none⟩ u) A' n' c' d.fs∧Far w A' ∧
      Q w ((((wr.setCell ⟨w.heap.size+1,0,none⟩ x).setCell ⟨w.heap.size+1,1,none⟩ y).setCell ⟨w.heap.size+1,2,none⟩ z).setCell ⟨w.heap.size+1,3,none⟩ u):=
  ⟨A,n,c,rfl,(((h.dsk.away1 (fun hn ad e=>(h.away hn ad e).2) 0 _).away1 (fun hn ad e=>(h.away hn ad e).2) 1 _).away1 (fun hn ad e=>(h.away hn ad e).2) 2 _).away1 (fun hn ad e=>(h.away hn ad e).2) 3 _,hf,h.sb.q.set4 (b:=w.heap.size+1) (by omega) _ _ _ _⟩
set_option maxHeartbeats 8000000 in
theorem wdrop_of (from_ til:Int) (A:Option Addr) (n c:Nat) (d:Dk) (ks:List Int) (w:World) (hT:Tab w) (hd:Dsk w A n c d.fs) (hB:Bnd 2305843009213693952 d)
    (KP:Hid (∀ A n c W,Q w W→Dsk W A n c d.fs→Calls Tryz.prog 187 #[dkv A n c d.room d.fuse d.off] W (RetPr W ks))) :
    Calls Tryz.prog 158 #[dkv A n c d.room d.fuse d.off,.int .i64 from_,.int .i64 til] w fun e w'=>∃ A' n' c',e=.returned (.tuple #[dkv A' n' c' (drops (fil from_ til ks) d).1.room (drops (fil from_ til ks) d).1.fuse (drops (fil from_ til ks) d).1.off,.int .i64 (drops (fil from_ til ks) d).2])∧Dsk w' A' n' c' (drops (fil from_ til ks) d).1.fs∧Far w A'∧Q w w':=by
  have HT:=Lib.hid hT
  have HD:=Lib.hid hd
  have HB0:=Lib.hid hB
  generalize hR:drops (fil from_ til ks) d=R
  have HR:=Lib.hid hR
  clear hT hd hB hR
  go_enter Tryz.func158,Tryz.ntmps158
  go_wp2_with fail
  refine (wown_any A n c d.room d.fuse d.off d.fs _ (HD.out.q (((Q.refl _).alloc _).alloc _))).mono ?_
  rintro e w1 ⟨A1,c1,rfl,ho,q1⟩
  have P0:=Lib.hid ((Sv.new w HD.out).put (d5:=d) q1 ho HD.out.few)
  obtain ⟨⟨e0,e1,e2,e3⟩,f0,f1,f2',f3⟩:=((Sv.new w HD.out).sb.step q1).get
  clear ho q1
  go_upto_region 2 with (fail)
  generalize ((((w1.setCell ⟨w.heap.size,0,none⟩ (.slice A1 n c1)).setCell ⟨w.heap.size,1,none⟩ (.int .i64 d.room)).setCell ⟨w.heap.size,2,none⟩ (.int .i64 d.fuse)).setCell ⟨w.heap.size,3,none⟩ (.bool d.off))=W0 at P0 ⊢
  clear e0 e1 e2 e3 f0 f1 f2' f3
  obtain ⟨⟨e0,e1,e2,e3⟩,f0,f1,f2',f3⟩:=P0.out.1.sb.get
  go_wp2_with fail
  refine (KP.out _ _ _ _ P0.out.1.sb.q P0.out.1.dsk).mono ?_
  rintro e w2 ⟨K,kn,kc,rfl,hk,hkn,hkf,q2⟩
  have S0:=Lib.hid (P0.out.1.step q2)
  have F0:=Lib.hid P0.out.2
  have I0:=Lib.hid hk
  have HN:=Lib.hid hk.len
  have HKF:Hid (∀ ad,K=some ad→ad.block≠w.heap.size):=Lib.hid (fun ad e=>by have h1:=hkf ad e;have h2:=P0.out.1.sb.res.lt;omega)
  have hkn2:kn≤9223372036854775807:=hkn
  clear hk hkn hkf q2 P0 KP e0 e1 e2 e3 f0 f1 f2' f3
  go_wp2
  go_loopw [16] (fun i wr=>∃ (j:Nat) (A5:Option Addr) (n5 c5:Nat) (x:Dk),j≤kn∧i=.int .i64 j∧Sv w A5 n5 c5 x wr∧Far w A5∧Bnd 2305843009213693952 x∧Ints wr K kn ks∧drops (fil from_ til ks) d=drops (fil from_ til (ks.drop j)) x) (fun i _=>kn - (intOf i).toNat)
  case atStart=>exact ⟨0,A1,n,c1,d,Nat.zero_le _,rfl,S0.out,F0.out,HB0.out,I0.out,rfl⟩
  case round =>
   obtain ⟨j,A5,n5,c5,x,hj,rfl,hv,hf,hb,hi,hx⟩:=hrel
   have V:=Lib.hid hv
   have HF:=Lib.hid hf
   have HB:=Lib.hid hb
   have HI:=Lib.hid hi
   have HX:=Lib.hid hx
   clear hv hf hb hi hx S0 F0 I0 HB0
   generalize wr=W at V HI ⊢
   obtain ⟨⟨e0,e1,e2,e3⟩,f0,f1,f2',f3⟩:=V.out.sb.get
   by_cases hlt:j<kn
   · have hjl:j<ks.length:=by have:=HN.out;omega
     have hjn:(j:Int)<(kn:Int):=by omega
     obtain ⟨ad,rfl,hab,hc⟩:=HI.out.load hjl
     have HX1:=Lib.hid (fun k (hk:ks[j]=k)=>(HX.out.trans (by rw [List.drop_eq_getElem_cons hjl,hk]):drops (fil from_ til ks) d=drops (fil from_ til (k :: ks.drop (j+1))) x))
     generalize ks[j]=k at hc HX1
     have HX2:=Lib.hid (HX1.out k rfl)
     clear HX1 HX
     by_cases g0:k<from_
     · have HX3:=Lib.hid (HX2.out.trans (by rw [fil_no (by omega)]))
       clear HX2
       go_wp2
       go_roundw
       case rel=>exact ⟨j+1,A5,n5,c5,x,by omega,by go_num,V.out,HF.out,HB.out,HI.out,HX3.out⟩
       case measure=>simp [intOf];omega
     by_cases g1:til≤k
     · have HX3:=Lib.hid (HX2.out.trans (by rw [fil_no (by omega)]))
       clear HX2
       go_wp2
       go_roundw
       case rel=>exact ⟨j+1,A5,n5,c5,x,by omega,by go_num,V.out,HF.out,HB.out,HI.out,HX3.out⟩
       case measure=>simp [intOf];omega
     have KNK:=Lib.hid (name_any k)
     have KDK:=Lib.hid (fun A n c w hd=>del_any (namB k) A n c x w hd (fun f hf=>Nat.le_trans (HB.out.sum f hf) (by unfold maxLen;omega)) HB.out.fuse.2)
     have HB2:=Lib.hid (HB.out.del (namB k))
     have HX3:=Lib.hid (HX2.out.trans (by rw [fil_yes ⟨by omega,by omega⟩,drops]))
     generalize del x (namB k)=y at KDK HB2 HX3
     obtain ⟨y,er⟩:=y
     simp only at KDK HB2 HX3
     have SV:=Lib.hid V.out.sb
     have DV:=Lib.hid V.out.dsk
     clear HX2
     go_upto_region 7 with (fail)
     have QW:=Lib.hid (Q.refl W)
     refine wp_region_heldL 7 (Q W) (by kernel_rfl) ?szz0 (fun hHeld=>?rzz0)
     case szz0 =>
      exact (Q.refl W).drew
     refine takeL 0 ?v1 ?y1 ?_
     case y1=>intro w hSw;have x0:=box_ hSw e0;have x1:=box_ hSw e1;have x2:=box_ hSw e2;have x3:=box_ hSw e3;clear hSw;go_simp;try with_reducible rfl
     refine takL 1 ?_
     refine oneL 2 (fun K hK=>?_)
     go_simp
     refine (KNK.out _ (HT.out.q (SV.out.q.trans hHeld))).mono ?_
     rintro e w3 ⟨rfl,q3⟩
     go_wp2_with fail
     refine hK.out _ _ ?Szz12 (fun hHeld=>?_)
     case Szz12 =>
      exact hHeld.trans q3
     clear hK K
     try simp only [Act.put,sA,sB,sC]
     refine oneL 3 (fun K hK=>?_)
     go_simp
     refine (KDK.out _ _ _ _ (DV.out.q hHeld)).mono ?_
     rintro e w5 ⟨A5,n5,c5,rfl,ho,q5⟩
     obtain ⟨⟨x0,x1,x2,x3⟩,y0,y1,y2,y3⟩:=((SV.out.step hHeld).step q5).get
     have Z5:=Lib.hid (And.intro ho (And.intro hHeld q5))
     go_wp2_with fail
     refine hK.out _ _ ?Szz11 (fun hHeld=>?_)
     case Szz11 =>
      exact hHeld.trans q5
     clear hK K
     try simp only [Act.put,sA,sB,sC]
     refine takL 4 ?_
     refine takL 5 ?_
     refine wpAnyL_ready (rs:=[6,7]) (by kernel_rfl) (by simp) ?_
     refine consL (fun K hK=>?kzz9) ?_
     case kzz9 =>
      go_simp
      refine hK.out _ _ ?Szz9 (fun hHeld=>?_)
      case Szz9 =>
       exact hHeld
      clear hK K
      try simp only [Act.put,sA,sB,sC]
      refine oneK (fun K hK=>?_)
      go_simp
      refine hK.out _ _ ?_
      clear hK K
      try simp only [Act.put,sA,sB,sC]
      refine takH 8 ?_
      refine wpAnyH_done (by kernel_rfl) ?_ _
      have P:=Lib.hid ((V.out.step Z5.out.2.1).put (d5:=y) Z5.out.2.2 Z5.out.1 (few_own Z5.out.1 HB2.out))
      have HJ:=Lib.hid ((((((HI.out.q Z5.out.2.1).q Z5.out.2.2).away HKF.out 0 (.slice A5 n5 c5)).away HKF.out 1 (.int .i64 y.room)).away HKF.out 2 (.int .i64 y.fuse)).away HKF.out 3 (.bool y.off))
      by_cases he:er=0
      · subst he
        have HX4:=Lib.hid (HX3.out.trans (if_pos rfl))
        go_wp2_with fail
        go_roundw
        case rel=>exact ⟨j+1,A5,n5,c5,y,by omega,by go_num,P.out.1,P.out.2,HB2.out,HJ.out,HX4.out⟩
        case measure=>simp [intOf];omega
      · have HX4:=Lib.hid (HX3.out.trans (if_neg he))
        clear HX3
        go_upto_region 9 with (fail)
        generalize ((((w5.setCell ⟨w.heap.size,0,none⟩ (.slice A5 n5 c5)).setCell ⟨w.heap.size,1,none⟩ (.int .i64 y.room)).setCell ⟨w.heap.size,2,none⟩ (.int .i64 y.fuse)).setCell ⟨w.heap.size,3,none⟩ (.bool y.off))=W6 at P ⊢
        obtain ⟨⟨t0,t1,t2,t3⟩,v0,v1,v2,v3⟩:=P.out.1.sb.get
        obtain ⟨⟨s0,s1,s2,s3⟩,h0,h1,h2,h3⟩:=P.out.1.sb.getR
        go_wp2
        (try rw [Exit.noGoto_ret])
        refine bodyPost_ret (v:=.tuple #[dkv A5 n5 c5 y.room y.fuse y.off,.int .i64 er]) (by simp [results,Tryz.results158,go_sem,s0,s1,s2,s3]) rfl ?_
        rw [←HR.out,HX4.out]
        exact P.out.1.endF P.out.2 er _ _ _ _
     refine consK (fun K hK=>?_) AllReadyL.nil
     go_simp
     refine hK.out _ _ ?_
     clear hK K
     try simp only [Act.put,sA,sB,sC]
     refine takH 6 ?_
     refine takH 8 ?_
     refine wpAnyH_done (by kernel_rfl) ?_ _
     have P:=Lib.hid ((V.out.step Z5.out.2.1).put (d5:=y) Z5.out.2.2 Z5.out.1 (few_own Z5.out.1 HB2.out))
     have HJ:=Lib.hid ((((((HI.out.q Z5.out.2.1).q Z5.out.2.2).away HKF.out 0 (.slice A5 n5 c5)).away HKF.out 1 (.int .i64 y.room)).away HKF.out 2 (.int .i64 y.fuse)).away HKF.out 3 (.bool y.off))
     by_cases he:er=0
     · subst he
       have HX4:=Lib.hid (HX3.out.trans (if_pos rfl))
       go_wp2_with fail
       go_roundw
       case rel=>exact ⟨j+1,A5,n5,c5,y,by omega,by go_num,P.out.1,P.out.2,HB2.out,HJ.out,HX4.out⟩
       case measure=>simp [intOf];omega
     · have HX4:=Lib.hid (HX3.out.trans (if_neg he))
       clear HX3
       go_upto_region 9 with (fail)
       generalize ((((w5.setCell ⟨w.heap.size,0,none⟩ (.slice A5 n5 c5)).setCell ⟨w.heap.size,1,none⟩ (.int .i64 y.room)).setCell ⟨w.heap.size,2,none⟩ (.int .i64 y.fuse)).setCell ⟨w.heap.size,3,none⟩ (.bool y.off))=W6 at P ⊢
       obtain ⟨⟨t0,t1,t2,t3⟩,v0,v1,v2,v3⟩:=P.out.1.sb.get
       obtain ⟨⟨s0,s1,s2,s3⟩,h0,h1,h2,h3⟩:=P.out.1.sb.getR
       go_wp2
       (try rw [Exit.noGoto_ret])
       refine bodyPost_ret (v:=.tuple #[dkv A5 n5 c5 y.room y.fuse y.off,.int .i64 er]) (by simp [results,Tryz.results158,go_sem,s0,s1,s2,s3]) rfl ?_
       rw [←HR.out,HX4.out]
       exact P.out.1.endF P.out.2 er _ _ _ _
   · have e:kn=j:=by omega
     have hall:ks.drop j=[]:=List.drop_eq_nil_of_le (by have:=HN.out;omega)
     have HX1:=Lib.hid (HX.out.trans (show _=(x,(0:Int)) by rw [hall];rfl))
     have hnk:¬ (j:Int)<(kn:Int):=by omega
     clear hall e HX
     obtain ⟨⟨s0,s1,s2,s3⟩,h0,h1,h2,h3⟩:=V.out.sb.getR
     go_wp2
     (try rw [Exit.noGoto_ret])
     refine bodyPost_ret (v:=.tuple #[dkv A5 n5 c5 x.room x.fuse x.off,.int .i64 0]) (by simp [results,Tryz.results158,go_sem,s0,s1,s2,s3]) rfl ?_
     rw [←HR.out,HX1.out]
     exact V.out.endF HF.out 0 _ _ _ _
end
section
open Go.RowKit Dkm Prm Km Wm
def RetD0 (w:World) (r:Dk×Int) (e:Ending) (w':World):Prop:=
  ∃ A n c,e=.returned (.tuple #[dkv A n c r.1.room r.1.fuse r.1.off,.int .i64 r.2])∧Dsk w' A n c r.1.fs∧Q w w'
structure Psw (w:World) (A:Option Addr) (n c:Nat) (d:Dk) (p:Kp) (x:Ks) (wi:World):Prop where
  db:Bx wi w.heap.size [.slice A n c,.int .i64 d.room,.int .i64 d.fuse,.bool d.off]
  sb:Bx wi (w.heap.size+1) (kL p x)
  res:Bx wi (w.heap.size+1+1) [.slice none 0 0,.int .i64 0,.int .i64 0,.bool false]
  dsk:Dsk wi A n c d.fs
  q:Q w wi
section
variable {w wi wj:World} {A A':Option Addr} {n c n' c':Nat} {d d':Dk} {p:Kp} {x:Ks}
theorem Psw.step (h:Psw w A n c d p x wi) (q:Q wi wj):Psw w A n c d p x wj:=⟨h.db.q q,h.sb.q q,h.res.q q,h.dsk.q q,h.q.trans q⟩
theorem Psw.new (h:Dsk w A n c d.fs) (p:Kp) (x:Ks):Psw w A n c d p x (((w.alloc (.cells #[.slice A n c,.int .i64 d.room,.int .i64 d.fuse,.bool d.off] 24)).alloc (.cells (kL p x).toArray 32)).alloc (.cells #[.slice none 0 0,.int .i64 0,.int .i64 0,.bool false] 24)):=by
 refine ⟨((Bx.new w [.slice A n c,.int .i64 d.room,.int .i64 d.fuse,.bool d.off] 24).alloc _).alloc _,?_,?_,h.q ((((Q.refl w).alloc _).alloc _).alloc _),(((Q.refl w).alloc _).alloc _).alloc _⟩
 · have:=(Bx.new (w.alloc (.cells #[.slice A n c,.int .i64 d.room,.int .i64 d.fuse,.bool d.off] 24)) (kL p x) 32).alloc (.cells #[.slice none 0 0,.int .i64 0,.int .i64 0,.bool false] 24)
   rw [show (w.alloc (.cells #[.slice A n c,.int .i64 d.room,.int .i64 d.fuse,.bool d.off] 24)).heap.size=w.heap.size+1 by simp] at this
   exact this
 · have:=Bx.new ((w.alloc (.cells #[.slice A n c,.int .i64 d.room,.int .i64 d.fuse,.bool d.off] 24)).alloc (.cells (kL p x).toArray 32)) [.slice none 0 0,.int .i64 0,.int .i64 0,.bool false] 24
   rw [show ((w.alloc (.cells #[.slice A n c,.int .i64 d.room,.int .i64 d.fuse,.bool d.off] 24)).alloc (.cells (kL p x).toArray 32)).heap.size=w.heap.size+1+1 by simp] at this
   exact this
theorem Psw.disk (h:Psw w A n c d p x wi) (hd:Dsk wi A' n' c' d'.fs) :
    Psw w A' n' c' d' p x ((((wi.setCell ⟨w.heap.size,0,none⟩ (.slice A' n' c')).setCell ⟨w.heap.size,1,none⟩ (.int .i64 d'.room)).setCell ⟨w.heap.size,2,none⟩ (.int .i64 d'.fuse)).setCell ⟨w.heap.size,3,none⟩ (.bool d'.off)):=by
  have hb:=bx_stk [(0,Value.slice A' n' c'),(1,.int .i64 d'.room),(2,.int .i64 d'.fuse),(3,.bool d'.off)] h.db (fun u hu=>(us4_ok A' n' c' d' _ _ _ _ u hu).1)
  have hok:=us4_ok A' n' c' d' (Value.slice A n c) (.int .i64 d.room) (.int .i64 d.fuse) (.bool d.off)
  have h1:=hd.stk h.db (nt4 _ _ _ _) _ hok
  exact ⟨hb,h.sb.far_stk (by omega) [(0,Value.slice A' n' c'),(1,.int .i64 d'.room),(2,.int .i64 d'.fuse),(3,.bool d'.off)],h.res.far_stk (by omega) [(0,Value.slice A' n' c'),(1,.int .i64 d'.room),(2,.int .i64 d'.fuse),(3,.bool d'.off)],h1,Q.stk (Nat.le_refl _) [(0,Value.slice A' n' c'),(1,.int .i64 d'.room),(2,.int .i64 d'.fuse),(3,.bool d'.off)] h.q⟩
theorem Psw.fin (h:Psw w A n c d p x wi) (er:Int) :
    Bx ((((wi.setCell ⟨w.heap.size+1+1,0,none⟩ (.slice A n c)).setCell ⟨w.heap.size+1+1,1,none⟩ (.int .i64 d.room)).setCell ⟨w.heap.size+1+1,2,none⟩ (.int .i64 d.fuse)).setCell ⟨w.heap.size+1+1,3,none⟩ (.bool d.off)) (w.heap.size+1+1) [.slice A n c,.int .i64 d.room,.int .i64 d.fuse,.bool d.off] ∧
    RetD0 w (d,er) (.returned (.tuple #[dkv A n c d.room d.fuse d.off,.int .i64 er])) ((((wi.setCell ⟨w.heap.size+1+1,0,none⟩ (.slice A n c)).setCell ⟨w.heap.size+1+1,1,none⟩ (.int .i64 d.room)).setCell ⟨w.heap.size+1+1,2,none⟩ (.int .i64 d.fuse)).setCell ⟨w.heap.size+1+1,3,none⟩ (.bool d.off)):=by
  have hb:=bx_stk [(0,Value.slice A n c),(1,.int .i64 d.room),(2,.int .i64 d.fuse),(3,.bool d.off)] h.res (fun u hu=>(us4_ok A n c d _ _ _ _ u hu).1)
  have hok:=us4_ok A n c d (Value.slice none 0 0) (.int .i64 0) (.int .i64 0) (.bool false)
  have h1:=h.dsk.stk h.res (nt4 none 0 0 ⟨[],0,0,false⟩) _ hok
  exact ⟨hb,A,n,c,rfl,h1,Q.stk (by omega) [(0,Value.slice A n c),(1,.int .i64 d.room),(2,.int .i64 d.fuse),(3,.bool d.off)] h.q⟩
end
set_option maxHeartbeats 8000000 in
theorem sweep_of (p:Kp) (x:Ks) (til:Int) (A:Option Addr) (n c:Nat) (d:Dk) (R:Dk×Int) (w:World) (hT:Tab w) (hd:Dsk w A n c d.fs) (hB:Bnd 2305843009213693952 d)
    (KP:Hid (∀ A n c W,Q w W→Dsk W A n c (if (hit (rnamB x.run) d.fs).2 then del d (rnamB x.run) else (d,0)).1.fs→Calls Tryz.prog 158 #[dkv A n c (if (hit (rnamB x.run) d.fs).2 then del d (rnamB x.run) else (d,0)).1.room (if (hit (rnamB x.run) d.fs).2 then del d (rnamB x.run) else (d,0)).1.fuse (if (hit (rnamB x.run) d.fs).2 then del d (rnamB x.run) else (d,0)).1.off,.int .i64 x.frm,.int .i64 til] W (RetD0 W R))) :
    Calls Tryz.prog 105 #[dkv A n c d.room d.fuse d.off,kvV p x,.int .i64 til] w (RetD0 w (if (if (hit (rnamB x.run) d.fs).2 then del d (rnamB x.run) else (d,0)).2≠0 then (if (hit (rnamB x.run) d.fs).2 then del d (rnamB x.run) else (d,0)) else R)):=by
  have KN:=Lib.hid (fun W (q:Q w W)=>runName_any x.run W (hT.q q))
  have KH:=Lib.hid (fun W (h:Files W A n d.fs)=>find_any (rnamB x.run) A n c d.room d.fuse d.off d.fs W h hd.max)
  have KD:=Lib.hid (fun W (h:Dsk W A n c d.fs)=>del_any (rnamB x.run) A n c d W h (fun f hf=>Nat.le_trans (hB.sum f hf) (by unfold maxLen;omega)) hB.fuse.2)
  have HB2:=Lib.hid (hB.del (rnamB x.run))
  obtain ⟨l,room,fuse,off⟩:=d
  obtain ⟨A1,n1,c1,B1,bn1,bc1,C1,cn1,cc1⟩:=p
  obtain ⟨⟨l1,room1,fuse1,off1⟩,frm1,seg1,run1,s1,down1⟩:=x
  have X:Hid (Psw w A n c ⟨l,room,fuse,off⟩ ⟨A1,n1,c1,B1,bn1,bc1,C1,cn1,cc1⟩ ⟨⟨l1,room1,fuse1,off1⟩,frm1,seg1,run1,s1,down1⟩ (((w.alloc (.cells #[.slice A n c,.int .i64 room,.int .i64 fuse,.bool off] 24)).alloc (.cells #[.slice A1 n1 c1,.int .i64 room1,.int .i64 fuse1,.bool off1,.int .i64 frm1,.int .i64 seg1,.int .i64 run1,.slice B1 bn1 bc1,.slice C1 cn1 cc1,.bool down1] 32)).alloc (.cells #[.slice none 0 0,.int .i64 0,.int .i64 0,.bool false] 24))):=Lib.hid (Psw.new hd ⟨A1,n1,c1,B1,bn1,bc1,C1,cn1,cc1⟩ ⟨⟨l1,room1,fuse1,off1⟩,frm1,seg1,run1,s1,down1⟩)
  simp only at KN KH KD KP ⊢
  simp only at HB2
  generalize del ⟨l,room,fuse,off⟩ (rnamB run1)=dl at KD KP HB2 ⊢
  generalize hit (rnamB run1) l=b at KH KP ⊢
  generalize rnamB run1=nm at KN KH KD
  obtain ⟨fl,b⟩:=b
  have hfv:fl.val=.agg #[.string fl.nm,.string fl.sf,.string fl.wt]:=rfl
  rw [hfv] at KH
  simp only at KP ⊢
  clear hfv hT hd hB
  obtain ⟨y,hy⟩:∃ y:Dk×Int,y=if b=true then dl else (⟨l,room,fuse,off⟩,0):=⟨_,rfl⟩
  rw [←hy] at KP ⊢
  have HY:=Lib.hid hy
  clear hy
  obtain ⟨⟨l6,room6,fuse6,off6⟩,er6⟩:=R
  obtain ⟨res,hres⟩:∃ res:Dk×Int,res=if y.2≠0 then y else (⟨l6,room6,fuse6,off6⟩,er6):=⟨_,rfl⟩
  rw [←hres]
  have HRES:=Lib.hid hres
  clear hres
  go_enter Tryz.func105,Tryz.ntmps105
  go_upto_region 2 with (fail)
  generalize (((w.alloc (.cells #[.slice A n c,.int .i64 room,.int .i64 fuse,.bool off] 24)).alloc (.cells #[.slice A1 n1 c1,.int .i64 room1,.int .i64 fuse1,.bool off1,.int .i64 frm1,.int .i64 seg1,.int .i64 run1,.slice B1 bn1 bc1,.slice C1 cn1 cc1,.bool down1] 32)).alloc (.cells #[.slice none 0 0,.int .i64 0,.int .i64 0,.bool false] 24))=W at X ⊢
  obtain ⟨⟨e0,e1,e2,e3⟩,f0,f1,f2',f3⟩:=X.out.db.get4
  obtain ⟨g0,g1,g2,g3,g4,g5,g6,g7,g8,g9⟩:=kget X.out.sb
  go_cut [10] (fun s10 wx=>s10=.bool b∧Q W wx)
  case first =>
   refine wp_region_held_drew (S:=Q W) (by kernel_rfl) ?szz0 (fun hHeld=>?rzz0)
   case szz0 =>
    exact (Q.refl W).drew
   refine takeH 0 ?v1 ?y1 ?_
   case y1=>intro w hSw;have x0:=box_ hSw e0;have x1:=box_ hSw e1;have x2:=box_ hSw e2;have x3:=box_ hSw e3;have x6:=box_ hSw g6;have x4:=box_ hSw g4;clear hSw;go_simp;try with_reducible rfl
   refine takH 1 ?_
   refine takeH 2 ?v3 ?y3 ?_
   case y3=>intro w hSw;have x0:=box_ hSw e0;have x1:=box_ hSw e1;have x2:=box_ hSw e2;have x3:=box_ hSw e3;have x6:=box_ hSw g6;have x4:=box_ hSw g4;clear hSw;go_simp;try with_reducible rfl
   refine wpAnyH_ready (rs:=[3,8]) (by kernel_rfl) (by simp) ?_
   refine consH (fun K hK=>?kzz25) ?_
   case kzz25 =>
    go_simp
    refine (KN.out _ (X.out.q.trans hHeld)).mono ?_
    rintro e v2 ⟨rfl,qv2⟩
    go_wp2_with fail
    refine hK.out _ _ ?Szz25 (fun hHeld=>?_)
    case Szz25 =>
     exact hHeld.trans qv2
    clear hK K
    try simp only [Act.put,sA,sB,sC]
    refine wpAnyH_ready (rs:=[4,8]) (by kernel_rfl) (by simp) ?_
    refine consH (fun K hK=>?kzz16) ?_
    case kzz16 =>
     go_simp
     refine (KH.out _ (X.out.dsk.files.q hHeld)).mono ?_
     rintro e v3 ⟨rfl,qv3⟩
     go_wp2_with fail
     refine hK.out _ _ ?Szz16 (fun hHeld=>?_)
     case Szz16 =>
      exact hHeld.trans qv3
     clear hK K
     try simp only [Act.put,sA,sB,sC]
     have hC:=hHeld
     refine takH 5 ?_
     refine takH 6 ?_
     refine takH 7 ?_
     refine oneH 8 (fun K hK=>?_)
     go_simp
     refine hK.out _ _ ?Szz9 (fun hHeld=>?_)
     case Szz9 =>
      exact hC.alloc _
     clear hK K
     try simp only [Act.put,sA,sB,sC]
     refine oneH 9 (fun K hK=>?_)
     go_simp
     refine hK.out _ _ ?Szz8 (fun hHeld=>?_)
     case Szz8 =>
      exact hC.alloc _
     clear hK K
     try simp only [Act.put,sA,sB,sC]
     refine takH 10 ?_
     refine wpAnyH_done (by kernel_rfl) ?_ _
     go_wp2_with fail
     go_meet
     exact ⟨rfl,hHeld⟩
    refine consH (fun K hK=>?_) AllReadyH.nil
    have hq2:W.heap.size≤v2.heap.size:=hHeld.size
    go_simp
    refine hK.out _ _ ?Szz17 (fun hHeld=>?_)
    case Szz17 =>
     exact hHeld.alloc _
    clear hK K
    try simp only [Act.put,sA,sB,sC]
    refine oneH 4 (fun K hK=>?_)
    go_simp
    refine (KH.out _ (X.out.dsk.files.q hHeld)).mono ?_
    rintro e v3 ⟨rfl,qv3⟩
    have BX:=(Bx.new v2 [.string ⟨#[]⟩,.string ⟨#[]⟩,.string ⟨#[]⟩] 76).q qv3
    obtain ⟨⟨b0,b1,b2⟩,y0,y1,y2⟩:=BX.get3
    go_wp2_with fail
    refine hK.out _ _ ?Szz15 (fun hHeld=>?_)
    case Szz15 =>
     exact hHeld.trans qv3
    clear hK K
    try simp only [Act.put,sA,sB,sC]
    refine takH 5 ?_
    refine takH 6 ?_
    refine takH 7 ?_
    refine oneH 9 (fun K hK=>?_)
    go_simp
    refine hK.out _ _ ?Szz14 (fun hHeld=>?_)
    case Szz14 =>
     exact hHeld.set3 (hq2) _ _ _
    clear hK K
    try simp only [Act.put,sA,sB,sC]
    refine takH 10 ?_
    refine wpAnyH_done (by kernel_rfl) ?_ _
    go_wp2_with fail
    go_meet
    exact ⟨rfl,hHeld⟩
   refine consH (fun K hK=>?_) AllReadyH.nil
   go_simp
   refine hK.out _ _ ?Szz26 (fun hHeld=>?_)
   case Szz26 =>
    exact hHeld.alloc _
   clear hK K
   try simp only [Act.put,sA,sB,sC]
   refine oneH 3 (fun K hK=>?_)
   go_simp
   refine (KN.out _ (X.out.q.trans hHeld)).mono ?_
   rintro e v2 ⟨rfl,qv2⟩
   go_wp2_with fail
   refine hK.out _ _ ?Szz24 (fun hHeld=>?_)
   case Szz24 =>
    exact hHeld.trans qv2
   clear hK K
   try simp only [Act.put,sA,sB,sC]
   refine oneH 4 (fun K hK=>?_)
   go_simp
   refine (KH.out _ (X.out.dsk.files.q hHeld)).mono ?_
   rintro e v3 ⟨rfl,qv3⟩
   have BX:Bx v3 W.heap.size [.string ⟨#[]⟩,.string ⟨#[]⟩,.string ⟨#[]⟩]:=((Bx.new W.drew [.string ⟨#[]⟩,.string ⟨#[]⟩,.string ⟨#[]⟩] 76).q qv2).q qv3
   obtain ⟨⟨b0,b1,b2⟩,y0,y1,y2⟩:=BX.get3
   go_wp2_with fail
   refine hK.out _ _ ?Szz23 (fun hHeld=>?_)
   case Szz23 =>
    exact hHeld.trans qv3
   clear hK K
   try simp only [Act.put,sA,sB,sC]
   refine takH 5 ?_
   refine takH 6 ?_
   refine takH 7 ?_
   refine oneH 9 (fun K hK=>?_)
   go_simp
   refine hK.out _ _ ?Szz22 (fun hHeld=>?_)
   case Szz22 =>
    exact hHeld.set3 (Nat.le_refl _) _ _ _
   clear hK K
   try simp only [Act.put,sA,sB,sC]
   refine takH 10 ?_
   refine wpAnyH_done (by kernel_rfl) ?_ _
   go_wp2_with fail
   go_meet
   exact ⟨rfl,hHeld⟩
  case rest =>
   obtain ⟨rfl,qc⟩:=hcut
   have Y:=Lib.hid (X.out.step qc)
   clear X qc KH e0 e1 e2 e3 f0 f1 f2' f3 g0 g1 g2 g3 g4 g5 g6 g7 g8 g9
   generalize wc=W at Y ⊢
   obtain ⟨⟨e0,e1,e2,e3⟩,f0,f1,f2',f3⟩:=Y.out.db.get4
   obtain ⟨g0,g1,g2,g3,g4,g5,g6,g7,g8,g9⟩:=kget Y.out.sb
   cases b with
   | false =>
     have hy:y=(⟨l,room,fuse,off⟩,0):=by rw [HY.out];rfl
     subst hy
     clear HY KD
     try simp only at KP
     go_wp2_with fail
     refine (KP.out _ _ _ _ Y.out.q Y.out.dsk).mono ?_
     rintro e v6 ⟨A6,n6,c6,rfl,hd6,q6⟩
     have V0:=Lib.hid (Y.out.step q6)
     have V:=Lib.hid (V0.out.disk (d':=⟨l6,room6,fuse6,off6⟩) hd6)
     clear e0 e1 e2 e3 f0 f1 f2' f3
     obtain ⟨⟨e0,e1,e2,e3⟩,f0,f1,f2',f3⟩:=V0.out.db.get4
     clear V0 hd6 q6
     go_upto_region 7 with (fail)
     generalize ((((v6.setCell ⟨w.heap.size,0,none⟩ (.slice A6 n6 c6)).setCell ⟨w.heap.size,1,none⟩ (.int .i64 room6)).setCell ⟨w.heap.size,2,none⟩ (.int .i64 fuse6)).setCell ⟨w.heap.size,3,none⟩ (.bool off6))=W7 at V ⊢
     clear e0 e1 e2 e3 f0 f1 f2' f3
     have F:=Lib.hid (V.out.fin er6)
     obtain ⟨⟨e0,e1,e2,e3⟩,f0,f1,f2',f3⟩:=V.out.db.get4
     obtain ⟨⟨h0,h1,h2,h3⟩,i0,i1,i2,i3⟩:=V.out.res.get4
     clear V
     go_wp2
     obtain ⟨⟨r0,r1,r2,r3⟩,_⟩:=F.out.1.get4
     refine bodyPost_ret (v:=.tuple #[dkv A6 n6 c6 room6 fuse6 off6,.int .i64 er6]) (by simp [results,Tryz.results105,go_sem,r0,r1,r2,r3]) rfl ?_
     rw [HRES.out,if_neg (by simp)]
     exact F.out.2
   | true =>
     have hy:y=dl:=by rw [HY.out];rfl
     subst hy
     clear HY
     obtain ⟨⟨l2,room2,fuse2,off2⟩,er⟩:=y
     try simp only at KD KP HB2
     by_cases he:er=0
     · subst he
       go_upto_region 4 with (fail)
       refine wp_region_heldL 8 (Q W) (by kernel_rfl) ?szz27 (fun hHeld=>?rzz27)
       case szz27 =>
        exact (Q.refl W).drew
       refine takeL 0 ?v28 ?y28 ?_
       case y28=>intro w hSw;have x0:=box_ hSw e0;have x1:=box_ hSw e1;have x2:=box_ hSw e2;have x3:=box_ hSw e3;have x6:=box_ hSw g6;have x4:=box_ hSw g4;clear hSw;go_simp;try with_reducible rfl
       refine takL 1 ?_
       refine takeL 2 ?v30 ?y30 ?_
       case y30=>intro w hSw;have x0:=box_ hSw e0;have x1:=box_ hSw e1;have x2:=box_ hSw e2;have x3:=box_ hSw e3;have x6:=box_ hSw g6;have x4:=box_ hSw g4;clear hSw;go_simp;try with_reducible rfl
       refine oneL 3 (fun K hK=>?_)
       go_simp
       refine (KN.out _ (Y.out.q.trans hHeld)).mono ?_
       rintro e v2 ⟨rfl,qv2⟩
       go_wp2_with fail
       refine hK.out _ _ ?Szz40 (fun hHeld=>?_)
       case Szz40 =>
        exact hHeld.trans qv2
       clear hK K
       try simp only [Act.put,sA,sB,sC]
       refine oneL 4 (fun K hK=>?_)
       go_simp
       refine (KD.out _ (Y.out.dsk.q hHeld)).mono ?_
       rintro e v3 ⟨A5,n5,c5,rfl,ho,qv3⟩
       obtain ⟨⟨x0,x1,x2,x3⟩,y0,y1,y2,y3⟩:=(Y.out.db.q (hHeld.trans qv3)).get4
       have Z5:=Lib.hid ((Y.out.step (hHeld.trans qv3)).disk (d':=⟨l2,room2,fuse2,off2⟩) (ho.dsk (few_own ho HB2.out)))
       go_wp2_with fail
       refine hK.out _ _ ?Szz39 (fun hHeld=>?_)
       case Szz39 =>
        exact hHeld.trans qv3
       clear hK K
       try simp only [Act.put,sA,sB,sC]
       refine takL 5 ?_
       refine takL 6 ?_
       refine wpAnyL_ready (rs:=[7,8]) (by kernel_rfl) (by simp) ?_
       refine consL (fun K hK=>?kzz37) ?_
       case kzz37 =>
        go_simp
        refine hK.out _ _ ?Szz37 (fun hHeld=>?_)
        case Szz37 =>
         exact hHeld
        clear hK K
        try simp only [Act.put,sA,sB,sC]
        refine oneK (fun K hK=>?_)
        go_simp
        refine hK.out _ _ ?_
        clear hK K
        try simp only [Act.put,sA,sB,sC]
        refine takH 9 ?_
        refine wpAnyH_done (by kernel_rfl) ?_ _
        go_upto_region 5 with (fail)
        generalize ((((v3.setCell ⟨w.heap.size,0,none⟩ (.slice A5 n5 c5)).setCell ⟨w.heap.size,1,none⟩ (.int .i64 room2)).setCell ⟨w.heap.size,2,none⟩ (.int .i64 fuse2)).setCell ⟨w.heap.size,3,none⟩ (.bool off2))=W5 at Z5 ⊢
        clear x0 x1 x2 x3 y0 y1 y2 y3 e0 e1 e2 e3 f0 f1 f2' f3 g0 g1 g2 g3 g4 g5 g6 g7 g8 g9
        obtain ⟨⟨e0,e1,e2,e3⟩,f0,f1,f2',f3⟩:=Z5.out.db.get4
        obtain ⟨g0,g1,g2,g3,g4,g5,g6,g7,g8,g9⟩:=kget Z5.out.sb
        go_wp2_with fail
        refine (KP.out _ _ _ _ Z5.out.q Z5.out.dsk).mono ?_
        rintro e v6 ⟨A6,n6,c6,rfl,hd6,q6⟩
        have V0:=Lib.hid (Z5.out.step q6)
        have V:=Lib.hid (V0.out.disk (d':=⟨l6,room6,fuse6,off6⟩) hd6)
        clear e0 e1 e2 e3 f0 f1 f2' f3
        obtain ⟨⟨e0,e1,e2,e3⟩,f0,f1,f2',f3⟩:=V0.out.db.get4
        clear V0 hd6 q6
        go_upto_region 7 with (fail)
        generalize ((((v6.setCell ⟨w.heap.size,0,none⟩ (.slice A6 n6 c6)).setCell ⟨w.heap.size,1,none⟩ (.int .i64 room6)).setCell ⟨w.heap.size,2,none⟩ (.int .i64 fuse6)).setCell ⟨w.heap.size,3,none⟩ (.bool off6))=W7 at V ⊢
        clear e0 e1 e2 e3 f0 f1 f2' f3
        have F:=Lib.hid (V.out.fin er6)
        obtain ⟨⟨e0,e1,e2,e3⟩,f0,f1,f2',f3⟩:=V.out.db.get4
        obtain ⟨⟨h0,h1,h2,h3⟩,i0,i1,i2,i3⟩:=V.out.res.get4
        clear V
        go_wp2
        obtain ⟨⟨r0,r1,r2,r3⟩,_⟩:=F.out.1.get4
        refine bodyPost_ret (v:=.tuple #[dkv A6 n6 c6 room6 fuse6 off6,.int .i64 er6]) (by simp [results,Tryz.results105,go_sem,r0,r1,r2,r3]) rfl ?_
        rw [HRES.out,if_neg (by simp)]
        exact F.out.2
       refine consK (fun K hK=>?_) AllReadyL.nil
       go_simp
       refine hK.out _ _ ?_
       clear hK K
       try simp only [Act.put,sA,sB,sC]
       refine takH 7 ?_
       refine takH 9 ?_
       refine wpAnyH_done (by kernel_rfl) ?_ _
       go_upto_region 5 with (fail)
       generalize ((((v3.setCell ⟨w.heap.size,0,none⟩ (.slice A5 n5 c5)).setCell ⟨w.heap.size,1,none⟩ (.int .i64 room2)).setCell ⟨w.heap.size,2,none⟩ (.int .i64 fuse2)).setCell ⟨w.heap.size,3,none⟩ (.bool off2))=W5 at Z5 ⊢
       clear x0 x1 x2 x3 y0 y1 y2 y3 e0 e1 e2 e3 f0 f1 f2' f3 g0 g1 g2 g3 g4 g5 g6 g7 g8 g9
       obtain ⟨⟨e0,e1,e2,e3⟩,f0,f1,f2',f3⟩:=Z5.out.db.get4
       obtain ⟨g0,g1,g2,g3,g4,g5,g6,g7,g8,g9⟩:=kget Z5.out.sb
       go_wp2_with fail
       refine (KP.out _ _ _ _ Z5.out.q Z5.out.dsk).mono ?_
       rintro e v6 ⟨A6,n6,c6,rfl,hd6,q6⟩
       have V0:=Lib.hid (Z5.out.step q6)
       have V:=Lib.hid (V0.out.disk (d':=⟨l6,room6,fuse6,off6⟩) hd6)
       clear e0 e1 e2 e3 f0 f1 f2' f3
       obtain ⟨⟨e0,e1,e2,e3⟩,f0,f1,f2',f3⟩:=V0.out.db.get4
       clear V0 hd6 q6
       go_upto_region 7 with (fail)
       generalize ((((v6.setCell ⟨w.heap.size,0,none⟩ (.slice A6 n6 c6)).setCell ⟨w.heap.size,1,none⟩ (.int .i64 room6)).setCell ⟨w.heap.size,2,none⟩ (.int .i64 fuse6)).setCell ⟨w.heap.size,3,none⟩ (.bool off6))=W7 at V ⊢
       clear e0 e1 e2 e3 f0 f1 f2' f3
       have F:=Lib.hid (V.out.fin er6)
       obtain ⟨⟨e0,e1,e2,e3⟩,f0,f1,f2',f3⟩:=V.out.db.get4
       obtain ⟨⟨h0,h1,h2,h3⟩,i0,i1,i2,i3⟩:=V.out.res.get4
       clear V
       go_wp2
       obtain ⟨⟨r0,r1,r2,r3⟩,_⟩:=F.out.1.get4
       refine bodyPost_ret (v:=.tuple #[dkv A6 n6 c6 room6 fuse6 off6,.int .i64 er6]) (by simp [results,Tryz.results105,go_sem,r0,r1,r2,r3]) rfl ?_
       rw [HRES.out,if_neg (by simp)]
       exact F.out.2
     · clear KP
       go_upto_region 4 with (fail)
       refine wp_region_heldL 8 (Q W) (by kernel_rfl) ?szz41 (fun hHeld=>?rzz41)
       case szz41 =>
        exact (Q.refl W).drew
       refine takeL 0 ?v42 ?y42 ?_
       case y42=>intro w hSw;have x0:=box_ hSw e0;have x1:=box_ hSw e1;have x2:=box_ hSw e2;have x3:=box_ hSw e3;have x6:=box_ hSw g6;have x4:=box_ hSw g4;clear hSw;go_simp;try with_reducible rfl
       refine takL 1 ?_
       refine takeL 2 ?v44 ?y44 ?_
       case y44=>intro w hSw;have x0:=box_ hSw e0;have x1:=box_ hSw e1;have x2:=box_ hSw e2;have x3:=box_ hSw e3;have x6:=box_ hSw g6;have x4:=box_ hSw g4;clear hSw;go_simp;try with_reducible rfl
       refine oneL 3 (fun K hK=>?_)
       go_simp
       refine (KN.out _ (Y.out.q.trans hHeld)).mono ?_
       rintro e v2 ⟨rfl,qv2⟩
       go_wp2_with fail
       refine hK.out _ _ ?Szz54 (fun hHeld=>?_)
       case Szz54 =>
        exact hHeld.trans qv2
       clear hK K
       try simp only [Act.put,sA,sB,sC]
       refine oneL 4 (fun K hK=>?_)
       go_simp
       refine (KD.out _ (Y.out.dsk.q hHeld)).mono ?_
       rintro e v3 ⟨A5,n5,c5,rfl,ho,qv3⟩
       obtain ⟨⟨x0,x1,x2,x3⟩,y0,y1,y2,y3⟩:=(Y.out.db.q (hHeld.trans qv3)).get4
       have Z5:=Lib.hid ((Y.out.step (hHeld.trans qv3)).disk (d':=⟨l2,room2,fuse2,off2⟩) (ho.dsk (few_own ho HB2.out)))
       go_wp2_with fail
       refine hK.out _ _ ?Szz53 (fun hHeld=>?_)
       case Szz53 =>
        exact hHeld.trans qv3
       clear hK K
       try simp only [Act.put,sA,sB,sC]
       refine takL 5 ?_
       refine takL 6 ?_
       refine wpAnyL_ready (rs:=[7,8]) (by kernel_rfl) (by simp) ?_
       refine consL (fun K hK=>?kzz51) ?_
       case kzz51 =>
        go_simp
        refine hK.out _ _ ?Szz51 (fun hHeld=>?_)
        case Szz51 =>
         exact hHeld
        clear hK K
        try simp only [Act.put,sA,sB,sC]
        refine oneK (fun K hK=>?_)
        go_simp
        refine hK.out _ _ ?_
        clear hK K
        try simp only [Act.put,sA,sB,sC]
        refine takH 9 ?_
        refine wpAnyH_done (by kernel_rfl) ?_ _
        go_upto_region 5 with (fail)
        generalize ((((v3.setCell ⟨w.heap.size,0,none⟩ (.slice A5 n5 c5)).setCell ⟨w.heap.size,1,none⟩ (.int .i64 room2)).setCell ⟨w.heap.size,2,none⟩ (.int .i64 fuse2)).setCell ⟨w.heap.size,3,none⟩ (.bool off2))=W5 at Z5 ⊢
        clear x0 x1 x2 x3 y0 y1 y2 y3 e0 e1 e2 e3 f0 f1 f2' f3 g0 g1 g2 g3 g4 g5 g6 g7 g8 g9
        obtain ⟨⟨e0,e1,e2,e3⟩,f0,f1,f2',f3⟩:=Z5.out.db.get4
        obtain ⟨g0,g1,g2,g3,g4,g5,g6,g7,g8,g9⟩:=kget Z5.out.sb
        have F:=Lib.hid (Z5.out.fin er)
        obtain ⟨⟨h0,h1,h2,h3⟩,i0,i1,i2,i3⟩:=Z5.out.res.get4
        go_wp2
        obtain ⟨⟨r0,r1,r2,r3⟩,_⟩:=F.out.1.get4
        refine bodyPost_ret (v:=.tuple #[dkv A5 n5 c5 room2 fuse2 off2,.int .i64 er]) (by simp [results,Tryz.results105,go_sem,r0,r1,r2,r3]) rfl ?_
        rw [HRES.out,if_pos he]
        exact F.out.2
       refine consK (fun K hK=>?_) AllReadyL.nil
       go_simp
       refine hK.out _ _ ?_
       clear hK K
       try simp only [Act.put,sA,sB,sC]
       refine takH 7 ?_
       refine takH 9 ?_
       refine wpAnyH_done (by kernel_rfl) ?_ _
       go_upto_region 5 with (fail)
       generalize ((((v3.setCell ⟨w.heap.size,0,none⟩ (.slice A5 n5 c5)).setCell ⟨w.heap.size,1,none⟩ (.int .i64 room2)).setCell ⟨w.heap.size,2,none⟩ (.int .i64 fuse2)).setCell ⟨w.heap.size,3,none⟩ (.bool off2))=W5 at Z5 ⊢
       clear x0 x1 x2 x3 y0 y1 y2 y3 e0 e1 e2 e3 f0 f1 f2' f3 g0 g1 g2 g3 g4 g5 g6 g7 g8 g9
       obtain ⟨⟨e0,e1,e2,e3⟩,f0,f1,f2',f3⟩:=Z5.out.db.get4
       obtain ⟨g0,g1,g2,g3,g4,g5,g6,g7,g8,g9⟩:=kget Z5.out.sb
       have F:=Lib.hid (Z5.out.fin er)
       obtain ⟨⟨h0,h1,h2,h3⟩,i0,i1,i2,i3⟩:=Z5.out.res.get4
       go_wp2
       obtain ⟨⟨r0,r1,r2,r3⟩,_⟩:=F.out.1.get4
       refine bodyPost_ret (v:=.tuple #[dkv A5 n5 c5 room2 fuse2 off2,.int .i64 er]) (by simp [results,Tryz.results105,go_sem,r0,r1,r2,r3]) rfl ?_
       rw [HRES.out,if_pos he]
       exact F.out.2
end
section
theorem compact_go (zs:List Int) (hs:zs.Pairwise (· ≤ ·)):∀ m,m≤zs.length→(Lib.compactUpTo zs.toArray m).Pairwise (· < ·)∧(∀ x,x∈Lib.compactUpTo zs.toArray m↔x∈zs.take m)∧∀ x∈Lib.compactUpTo zs.toArray m,∀ j (h:j<zs.length),m≤j+1→x≤zs[j]
  | 0,_=>by simp [Lib.compactUpTo]
  | m + 1,hm=>by
    obtain ⟨h1,h2,h3⟩:=compact_go zs hs m (by omega)
    have hml:m<zs.length:=by omega
    have hg:∀ j (h:j<zs.length),zs.toArray[j]! = zs[j]:=fun j h=>by rw [getElem!_pos zs.toArray j (by simpa using h)];simp
    have hle:∀ i j (hi:i<zs.length) (hj:j<zs.length),i≤j→zs[i]≤zs[j]:=fun i j hi hj hij=>by
     rcases Nat.lt_or_eq_of_le hij with h | h
     · exact List.pairwise_iff_getElem.1 hs i j hi hj h
     · subst h;exact Int.le_refl _
    rw [Lib.compactUpTo_succ,List.take_succ_eq_append_getElem hml]
    cases hk:Lib.keeps zs.toArray m with
    | true =>
      simp only [if_true]
      rw [hg m hml]
      refine ⟨List.pairwise_append.2 ⟨h1,by simp,fun x hx y hy=>?_⟩,fun x=>by rw [List.mem_append,List.mem_append,h2],fun x hx j hj hmj=>?_⟩
      · rw [List.mem_singleton] at hy
        subst hy
        unfold Lib.keeps at hk
        rw [decide_eq_true_eq] at hk
        rcases hk with h0 | h0
        · subst h0;simp [Lib.compactUpTo] at hx
        · by_cases hm0:m=0
          · subst hm0;simp [Lib.compactUpTo] at hx
          · rw [hg m hml,hg (m - 1) (by omega)] at h0
            have a1:=h3 x hx (m - 1) (by omega) (by omega)
            have a2:=hle (m - 1) m (by omega) hml (by omega)
            omega
      · rw [List.mem_append] at hx
        rcases hx with hx | hx
        · exact h3 x hx j hj (by omega)
        · rw [List.mem_singleton] at hx;subst hx;exact hle m j hml hj (by omega)
    | false =>
      simp only [Bool.false_eq_true,if_false,List.append_nil]
      refine ⟨h1,fun x=>?_,fun x hx j hj hmj=>h3 x hx j hj (by omega)⟩
      rw [h2,List.mem_append,List.mem_singleton]
      refine ⟨.inl,fun hx=>?_⟩
      rcases hx with hx | hx
      · exact hx
      · unfold Lib.keeps at hk
        rw [decide_eq_false_iff_not] at hk
        have hm0:m≠0:=fun e=>hk (.inl e)
        have hq:zs.toArray[m]! = zs.toArray[m - 1]!:=by
         by_cases e:zs.toArray[m]! = zs.toArray[m - 1]!
         · exact e
         · exact absurd (.inr e) hk
        rw [hg m hml,hg (m - 1) (by omega)] at hq
        rw [hx,hq]
        exact List.mem_take_iff_getElem.2 ⟨m - 1,by omega,rfl⟩
theorem compact_sorted (zs:List Int) (hs:zs.Pairwise (· ≤ ·)):(Lib.compact zs).Pairwise (· < ·)∧∀ x,x∈Lib.compact zs↔x∈zs:=by
 obtain ⟨h1,h2,_⟩:=compact_go zs hs zs.length (Nat.le_refl _)
 rw [List.take_length] at h2
 exact ⟨h1,h2⟩
end
section
open Dkm Wm Du
def numOf (nm:ByteArray):Option Int:=
  match Lib.atoiAll (Lib.trimPrefix nm.data.toList [119]) with
  | .ok v=>if nm=namB v then some v else none
  | _=>none
def rawN (fs:List Fil):List Int:=fs.filterMap fun f=>numOf f.nm
def prsN (fs:List Fil):List Int:=Lib.compact ((rawN fs).mergeSort fun x y=>decide (x≤y))
theorem rawN_snoc (fs:List Fil) {k:Nat} (hk:k<fs.length):rawN (fs.take (k+1))=rawN (fs.take k)++(numOf fs[k].nm).toList:=by
 unfold rawN
 rw [List.take_succ_eq_append_getElem hk,List.filterMap_append]
 cases h:numOf fs[k].nm<;>simp [h]
theorem parse_digits:∀ (l:List UInt8) (acc:Nat),(∀ c∈l,Dm.isD c=true)→acc*10 ^ l.length+Dm.val l<1000000000→Lib.parseUint10 acc l=.ok (acc*10 ^ l.length+Dm.val l)
  | [],acc,_,_=>by simp [Lib.parseUint10,Dm.val]
  | c :: r,acc,h,hb=>by
    have hc:=h c (by simp)
    have hd:48≤c.toNat∧c.toNat≤57:=by
     unfold Dm.isD at hc;simp at hc;omega
    have hdv:Dm.dv c=c.toNat - 48:=rfl
    rw [Dm.val_cons,List.length_cons,Nat.pow_succ] at hb
    have e:acc*(10 ^ r.length*10)+(Dm.dv c*10 ^ r.length+Dm.val r)=(acc*10+Dm.dv c)*10 ^ r.length+Dm.val r:=by
     rw [Nat.add_mul,Nat.mul_assoc,Nat.mul_comm 10 (10 ^ r.length)];omega
    rw [e] at hb
    have hp:1≤10 ^ r.length:=Nat.one_le_pow _ _ (by omega)
    have hle:acc*10+Dm.dv c≤(acc*10+Dm.dv c)*10 ^ r.length:=Nat.le_mul_of_pos_right _ hp
    simp only [Lib.parseUint10]
    rw [if_pos hd,if_neg (by omega),if_neg (by omega),←hdv,parse_digits r _ (fun x hx=>h x (by simp [hx])) hb,Dm.val_cons,List.length_cons,Nat.pow_succ,e]
theorem atoi_dg (n:Nat) (h:n<1000000000):Lib.atoiAll (Dm.dg n)=.ok (n:Int):=by
 have hall:=Dm.all_dg n
 have hv:=Dm.val_dg n
 have hp:=parse_digits (Dm.dg n) 0 hall (by rw [hv];omega)
 rw [hv,Nat.zero_mul,Nat.zero_add] at hp
 cases hd:Dm.dg n with
 | nil=>exact absurd hd (Dm.dg_ne n)
 | cons c r =>
   rw [hd] at hall hp
   have hc:=hall c (by simp)
   have hd2:48≤c.toNat∧c.toNat≤57:=by unfold Dm.isD at hc;simp at hc;omega
   rw [Lib.atoiAll_plain c r (by omega) (by omega)]
   unfold Lib.parseMag
   rw [if_neg (by simp),hp]
   simp only [Lib.signless]
   rw [if_neg (by omega)]
theorem num_iff (nm:ByteArray) (v:Int):numOf nm=some v↔segOk v∧nm=namB v:=by
 constructor
 · intro h
   unfold numOf at h
   split at h
   · rename_i x hx
     split at h
     · rename_i hn
       injection h with h
       subst h
       refine ⟨?_,hn⟩
       by_cases hs:segOk x
       · exact hs
       · rw [namB_no hs] at hn
         subst hn
         cases hx
     · cases h
   · cases h
 · rintro ⟨h1,rfl⟩
   have h2:=h1.1
   have h3:=h1.2
   have e:Lib.trimPrefix (namB v).data.toList [119]=Dm.dg v.toNat:=by
    rw [namB_list,nam_ok h1];rfl
   unfold numOf
   rw [e,atoi_dg v.toNat (by omega)]
   have e2:((v.toNat:Nat):Int)=v:=by omega
   simp only [e2,if_true]
theorem hit_mem (nm:ByteArray) (fs:List Fil):(hit nm fs).2=true↔∃ f∈fs,f.nm=nm:=by
 constructor
 · intro h
   obtain ⟨k,hk,hn,_⟩:=hit_some h
   exact ⟨fs[k],List.getElem_mem hk,hn⟩
 · rintro ⟨f,hf,hn⟩
   cases h:(hit nm fs).2 with
   | true=>rfl
   | false=>exact absurd hn (hit_no h f hf)
theorem prs_sorted (fs:List Fil):(prsN fs).Pairwise (· < ·)∧∀ x,x∈prsN fs↔segOk x∧(hit (namB x) fs).2=true:=by
 have hs:((rawN fs).mergeSort fun x y=>decide (x≤y)).Pairwise (· ≤ ·):=by
  have:=List.pairwise_mergeSort (le:=fun x y:Int=>decide (x≤y)) (by intro a b c;simp;omega) (by intro a b;simp;omega) (rawN fs)
  exact this.imp (by simp)
 obtain ⟨h1,h2⟩:=compact_sorted _ hs
 refine ⟨h1,fun x=>?_⟩
 unfold prsN
 rw [h2,List.mem_mergeSort,hit_mem]
 unfold rawN
 rw [List.mem_filterMap]
 constructor
 · rintro ⟨f,hf,hx⟩
   obtain ⟨a,b⟩:=(num_iff _ _).1 hx
   exact ⟨a,f,hf,b⟩
 · rintro ⟨a,f,hf,hx⟩
   exact ⟨f,hf,(num_iff _ _).2 ⟨a,hx⟩⟩
def seqD:Nat→Int→Int→Dk→Dk×Int
  | 0,_,_,d=>(d,0)
  | n + 1,seg,til,d =>
    if seg<til∧seg≤1000000 then
      if (hit (namB seg) d.fs).2 then (if (del d (namB seg)).2=0 then seqD n (seg+1) til (del d (namB seg)).1 else del d (namB seg))
      else seqD n (seg+1) til d
    else (d,0)
theorem seq_drops:∀ (n:Nat) (s til:Int) (ks:List Int) (d:Dk),1≤s→(til - s).toNat≤n→ks.Pairwise (· < ·)→(∀ k∈ks,segOk k∧s≤k∧k<til)→(∀ x,s≤x→x<til→segOk x→(x∈ks↔(hit (namB x) d.fs).2=true))→seqD n s til d=drops ks d
  | 0,s,til,ks,d,hs,hn,hp,hk,hh=>by
    cases ks with
    | nil=>rfl
    | cons k ks=>obtain ⟨_,a,b⟩:=hk k (by simp);omega
  | n + 1, s, til,ks,d,hs,hn,hp,hk,hh=>by
    unfold seqD
    by_cases hc:s<til∧s≤1000000
    · rw [if_pos hc]
      have hok:segOk s:=⟨hs,hc.2⟩
      have hne:∀ x,s+1≤x→segOk x→hit (namB x) (del d (namB s)).1.fs=hit (namB x) d.fs:=fun x hx hxo=>del_apart d (fun e=>by have:=namB_inj hxo hok e;omega)
      cases hi:(hit (namB s) d.fs).2 with
      | true =>
        have hmem:=(hh s (Int.le_refl _) hc.1 hok).2 hi
        cases ks with
        | nil=>cases hmem
        | cons k ks =>
          have hks:k=s:=by
           rcases List.mem_cons.1 hmem with e | e
           · exact e.symm
           · have:=List.rel_of_pairwise_cons hp e
             have:=(hk k (by simp)).2.1
             omega
          subst hks
          simp only [if_true]
          unfold Wm.drops
          by_cases h0:(del d (namB k)).2=0
          · rw [if_pos h0,if_pos h0]
            refine seq_drops n (k+1) til ks _ (by omega) (by omega) (List.Pairwise.of_cons hp) (fun x hx=>?_) (fun x hx1 hx2 hxo=>?_)
            · have a:=List.rel_of_pairwise_cons hp hx
              obtain ⟨b1,b2,b3⟩:=hk x (by simp [hx])
              exact ⟨b1,by omega,b3⟩
            · rw [hne x hx1 hxo,←hh x (by omega) hx2 hxo,List.mem_cons]
              exact ⟨.inr,fun h=>h.resolve_left (by omega)⟩
          · rw [if_neg h0,if_neg h0]
      | false =>
        simp only [Bool.false_eq_true,if_false]
        refine seq_drops n (s+1) til ks d (by omega) (by omega) hp (fun x hx=>?_) (fun x hx1 hx2 hxo=>hh x (by omega) hx2 hxo)
        obtain ⟨b1,b2,b3⟩:=hk x hx
        refine ⟨b1,?_,b3⟩
        by_cases e:x=s
        · subst e
          have:=(hh x b2 b3 b1).1 hx
          rw [hi] at this;cases this
        · omega
    · rw [if_neg hc]
      cases ks with
      | nil=>rfl
      | cons k ks=>obtain ⟨a0,a,b⟩:=hk k (by simp);have:=a0.2;omega
theorem drops_seq (d:Dk) (fr til:Int) (s:Int) (hs:s=if fr<1 then 1 else fr):drops ((prsN d.fs).filter fun k=>decide (fr≤k∧k<til)) d=seqD (til - s).toNat s til d:=by
 obtain ⟨h1,h2⟩:=prs_sorted d.fs
 refine (seq_drops _ s til _ d (by split at hs<;>omega) (Nat.le_refl _) (h1.filter _) (fun k hk=>?_) (fun x hx1 hx2 hxo=>?_)).symm
 · obtain ⟨a,b⟩:=List.mem_filter.1 hk
   have c:=(h2 k).1 a
   simp only [decide_eq_true_eq] at b
   have:=c.1.1
   exact ⟨c.1,by split at hs<;>omega,b.2⟩
 · rw [List.mem_filter,h2]
   simp only [decide_eq_true_eq]
   have:fr≤x:=by split at hs<;>omega
   exact ⟨fun h=>h.1.2,fun h=>⟨⟨hxo,h⟩,this,hx2⟩⟩
end
section
open Dkm Prm Wm Du
namespace Km
theorem drp_seq:∀ (n m:Nat) (s til:Int) (d:Dk),(til≤s+n∨1000001≤s+n)→(til≤s+m∨1000001≤s+m)→drpF n d s til=seqD m s til d
  | 0,m,s,til,d,h1,h2=>by
    have hc:¬ (s<til∧s≤1000000):=by omega
    cases m with
    | zero=>rfl
    | succ m=>unfold drpF seqD;rw [if_neg hc]
  | n+1,0,s,til,d,h1,h2=>by
    have hc:¬ (s<til∧s≤1000000):=by omega
    unfold drpF seqD;rw [if_neg hc]
  | n + 1,m+1,s,til,d,h1,h2=>by
    unfold drpF seqD
    by_cases hc:s<til∧s≤1000000
    · rw [if_pos hc,if_pos hc]
      cases hh:(hit (namB s) d.fs).2 with
      | true =>
        simp only [if_true]
        by_cases he:(del d (namB s)).2=0
        · rw [if_neg (by simpa using he),if_pos he]
          exact drp_seq n m _ _ _ (by omega) (by omega)
        · rw [if_pos he,if_neg he]
      | false =>
        simp only [Bool.false_eq_true,if_false]
        exact drp_seq n m _ _ _ (by omega) (by omega)
    · rw [if_neg hc,if_neg hc]
theorem drpM_seq (d:Dk) (fr til:Int):drpM d fr til=seqD (til - (if fr<1 then 1 else fr)).toNat (if fr<1 then 1 else fr) til d:=by
 unfold drpM
 have e:max fr 1=if fr<1 then 1 else fr:=by split<;>omega
 rw [e]
 exact drp_seq _ _ _ _ _ (by right;split<;>omega) (by left;omega)
theorem drpM_drops (d:Dk) (fr til:Int):drpM d fr til=drops ((prsN d.fs).filter fun k=>decide (fr≤k∧k<til)) d:=by
 rw [drpM_seq,drops_seq d fr til _ rfl]
end Km
end
section
open Go.RowKit
def numK:Kind Int where
  T := 3
  S := 49
  k:=1
  bs:=8
  z:=.int .i64 0
  row:=fun r=>[.int .i64 r]
  pos:=by omega
  bpos:=by omega
  len:=fun _=>rfl
  one:=fun _ u hu=>by simp at hu;rcases hu with rfl;rfl
  und:=Tryz.underlying49
  info:=by kernel_rfl
  zc:=rfl
theorem numK_rows (l:List Int):numK.rows l=l.map (Value.int .i64):=by
 induction l with
 | nil=>rfl
 | cons a l ih=>rw [Kind.rows,ih];rfl
theorem lst_lit1 (w:World) (x:Int):Lst numK (w.alloc (.cells #[.int .i64 x] 3)) (some ⟨w.heap.size,0,none⟩) 1 [x]:=
  (OwnK.lit1 numK w w.heap.size (Nat.le_refl _) x).lst
end
section
open Go.RowKit
theorem Lst.ints {w:World} {A:Option Addr} {n:Nat} {l:List Int} (h:Lst numK w A n l):Ints w A n l:=by
 unfold Lst at h;rw [numK_rows] at h;exact h
end
section
open Go.RowKit
theorem num_holds {w:World} {base g n c:Nat} {l:List Int} (h:OwnK numK w base (some ⟨g,0,none⟩) n c l):Go.Sort.Holds (Value.int .i64) w g 0 l.toArray∧g<w.heap.size∧base≤g∧n≤c∧c≤maxLen∧l.length=n:=by
 unfold OwnK at h
 rw [numK_rows] at h
 obtain ⟨g',cap,e,h1,h2,h3,h4,h5,h6⟩:=Lib.holds_of_ownsRow h (by intro e;cases e)
 injection e with e1 e2 e3
 injection e1 with e1
 injection e1 with e1
 subst e1
 exact ⟨h6,h2,h1,by omega,by omega,h5⟩
theorem num_put {w:World} {base g n c q k:Nat} {l ys:List Int} (h:OwnK numK w base (some ⟨g,0,none⟩) n c l) (hy:ys.length=n) (hk:k≤n) :
    OwnK numK (Go.Sort.putRow (Value.int .i64) (Go.Sort.ahead w q) g 0 ys.toArray) base (some ⟨g,0,none⟩) k c (ys.take k):=by
  unfold OwnK at *
  rw [numK_rows] at *
  exact Lib.ownsRow_putRow h hy hk
theorem sort_any (A:Option Addr) (n c base:Nat) (l:List Int) (w:World) (h:OwnK numK w base A n c l) (hb:base≤w.heap.size) (hsm:n<4611686018427387904) :
    Calls Tryz.prog 210 #[.slice A n c] w fun e w'=>e=.returned (.tuple #[])∧OwnK numK w' base A n c (l.mergeSort fun x y=>decide (x≤y))∧Below base w w':=by
  have hl:=h.len
  rcases h.parts with ⟨rfl,rfl,rfl,rfl⟩ | ⟨g,cur,rfl,_⟩
  · refine (Tryz.slices_Sort_int_none none 0 w).mono fun e w' hx=>?_
    obtain ⟨he,rfl⟩:=hx
    exact ⟨he,by simpa using h,Below.refl _ _⟩
  · obtain ⟨h1,h2,h3,h4,h5,h6⟩:=num_holds h
    subst h6
    refine (Tryz.slices_Sort_int g 0 c l w h1 h2 hsm).mono fun e w' hx=>?_
    obtain ⟨he,q,os,rfl⟩:=hx
    have h7:=num_put (q:=q) (k:=l.length) (ys:=l.mergeSort fun x y=>decide (x≤y)) h (by simp) (Nat.le_refl _)
    rw [List.take_of_length_le (by simp)] at h7
    have h8:Below base w (Go.Sort.putRow (Value.int .i64) (Go.Sort.ahead w q) g 0 (l.mergeSort fun x y=>decide (x≤y)).toArray):=Lib.below_putRow (Below.refl _ _) h3
    have h9:=Lib.below_grow (Go.Sort.putRow (Value.int .i64) (Go.Sort.ahead w q) g 0 (l.mergeSort fun x y=>decide (x≤y)).toArray).heap.size _ (Nat.le_refl _) 0 os
    exact ⟨he,h7.keep h9 (Nat.le_refl _),h8.trans (h9.mono (Nat.le_trans hb h8.size))⟩
theorem compact_le (l:List Int):(Lib.compact l).length≤l.length:=by
 unfold Lib.compact Lib.compactUpTo
 rw [List.length_map]
 have:=List.length_filter_le (Lib.keeps l.toArray) (List.range l.length)
 simpa using this
theorem compact_any (A:Option Addr) (n c base:Nat) (l:List Int) (w:World) (h:OwnK numK w base A n c l) (hb:base≤w.heap.size) :
    Calls Tryz.prog 211 #[.slice A n c] w fun e w'=>e=.returned (.slice A (Lib.compact l).length c)∧OwnK numK w' base A (Lib.compact l).length c (Lib.compact l)∧Below base w w':=by
  have hl:=h.len
  rcases h.parts with ⟨rfl,rfl,rfl,rfl⟩ | ⟨g,cur,rfl,_⟩
  · refine (Tryz.slices_Compact_int_empty none 0 w).mono fun e w' hx=>?_
    obtain ⟨he,rfl⟩:=hx
    exact ⟨he,h,Below.refl _ _⟩
  · obtain ⟨h1,h2,h3,h4,h5,h6⟩:=num_holds h
    subst h6
    refine (Tryz.slices_Compact_int g 0 c l w h1 (by unfold maxLen at h5;omega) h4).mono fun e w' hx=>?_
    obtain ⟨he,q,rfl⟩:=hx
    have hle:=compact_le l
    have h7:=num_put (q:=q) (k:=(Lib.compact l).length) (ys:=Lib.compact l++List.replicate (l.length - (Lib.compact l).length) 0) h (by simp;omega) hle
    rw [List.take_left' rfl] at h7
    exact ⟨he,h7,Lib.below_putRow (Below.refl _ _) h3⟩
end
section
open Go.RowKit Dkm Wm
structure Errs (w:World):Prop where
  sy:∃ ev,w.cell? ⟨6,0,none⟩=some ev∧(ev=.nilIface∨∃ te pe,ev=.iface te pe)
  ra:∃ ev,w.cell? ⟨7,0,none⟩=some ev∧(ev=.nilIface∨∃ te pe,ev=.iface te pe)
theorem Errs.q {w w':World} (h:Errs w) (q:Q w w'):Errs w':=by
 obtain ⟨⟨e,h1,h2⟩,f,h3,h4⟩:=h
 exact ⟨⟨e,box_ q h1,h2⟩,f,box_ q h3,h4⟩
theorem atoi_ok (s:ByteArray) (v:Int) (h:Lib.atoiAll s.data.toList=.ok v) (hs:s.size≤140737488355328) (w:World) :
    Calls Tryz.prog 208 #[.string s] w fun e w'=>e=.returned (.tuple #[.int .i64 v,.nilIface])∧Q w w':=by
  refine (Tryz.strconv_Atoi_ok s (by omega) v h w).mono fun e w' hx=>?_
  obtain ⟨he,h1 | ⟨t,h1⟩⟩:=hx
  · exact ⟨he,h1 ▸ Q.refl w⟩
  · exact ⟨he,h1 ▸ Lib.bytesWorld_below w _ t⟩
theorem atoi_no (s:ByteArray) (h:∀ v,Lib.atoiAll s.data.toList≠.ok v) (hs:s.size≤140737488355328) (w:World) (hE:Errs w) :
    Calls Tryz.prog 208 #[.string s] w fun e w'=>∃ v t p,e=.returned (.tuple #[.int .i64 v,.iface t (.pointer (some p))])∧Q w w':=by
  obtain ⟨⟨e1,g1,k1⟩,e2,g2,k2⟩:=hE
  rcases ha:Lib.atoiAll s.data.toList with v | _ | _
  · exact absurd ha (h v)
  · refine (Any.strconv_Atoi_syntax Tryz.laysC172 s (by omega) ha e1 w g1 k1).mono fun e w' hx=>?_
    obtain ⟨N,he,_,_,hb⟩:=hx
    exact ⟨_,_,_,he,hb⟩
  · refine (Tryz.strconv_Atoi_range s (by omega) ha e2 w g2 k2).mono fun e w' hx=>?_
    obtain ⟨N,he,_,_,hb⟩:=hx
    exact ⟨_,_,_,he,hb⟩
theorem trim_le (nm:ByteArray):(⟨(Lib.trimPrefix nm.data.toList [119]).toArray⟩:ByteArray).size≤nm.size:=by
 show (Lib.trimPrefix nm.data.toList [119]).toArray.size≤nm.data.size
 unfold Lib.trimPrefix
 split
 · simp
 · simp
set_option maxHeartbeats 4000000 in
theorem present_any (A:Option Addr) (n c:Nat) (d:Dk) (w:World) (hT:Tab w) (hE:Errs w) (hd:Dsk w A n c d.fs) (hs:∀ f∈d.fs,f.nm.size≤140737488355328) :
    Calls Tryz.prog 187 #[dkv A n c d.room d.fuse d.off] w (RetPr w (prsN d.fs)):=by
  have HT:=Lib.hid hT
  have HE:=Lib.hid hE
  have HD:=Lib.hid hd
  have HS:=Lib.hid hs
  have HL:=Lib.hid hd.len
  have few:=hd.few
  clear hT hE hd hs
  go_enter Tryz.func187,Tryz.ntmps187
  go_wp2
  have Q0:=Lib.hid ((Q.refl w).alloc (.cells #[.slice A n c,.int .i64 d.room,.int .i64 d.fuse,.bool d.off] 24))
  generalize w.alloc (.cells #[.slice A n c,.int .i64 d.room,.int .i64 d.fuse,.bool d.off] 24)=W at Q0 ⊢
  go_loopw [3,11] (fun v i wr=>∃ j A2 k c2,j≤n∧k≤j∧i=.int .i64 (j:Nat)∧v=.slice A2 k c2∧OwnK numK wr w.heap.size A2 k c2 (rawN (d.fs.take j))∧Q w wr) (fun _ i _=>n - (intOf i).toNat)
  case atStart=>exact ⟨0,none,0,0,Nat.zero_le _,Nat.le_refl _,rfl,rfl,OwnK.nil_ _ _ _,Q0.out⟩
  case round =>
   obtain ⟨j,A2,k,c2,hj,hkj,rfl,rfl,ho,hq⟩:=hrel
   have HO:=Lib.hid ho
   have HQ:=Lib.hid hq
   clear ho hq Q0
   by_cases hlt:j<n
   · have hjl:j<d.fs.length:=by have:=HL.out;omega
     obtain ⟨ad,hA,hb,a0,a1,a2⟩:=(HD.out.q HQ.out).files.load hlt hjl
     have HSj:=Lib.hid (HS.out _ (List.getElem_mem hjl))
     have HR:=Lib.hid (rawN_snoc d.fs hjl)
     have i1:(j:Int)<(n:Int):=by omega
     have i2:0≤(j:Int):=by omega
     have i3:j<n:=hlt
     subst hA
     generalize d.fs[j]=f at a0 a1 a2 HSj HR
     obtain ⟨nm,sf,wt⟩:=f
     simp only at a0 a1 a2 HSj HR
     have X1:=Lib.hid ((Q.refl wr).alloc (.cells #[.string nm,.string sf,.string wt] 76))
     have B1:=Lib.hid (Bx.new wr [.string nm,.string sf,.string wt] 76)
     have B1:Hid (Bx (wr.alloc (.cells #[.string nm,.string sf,.string wt] 76)) wr.heap.size [.string nm,.string sf,.string wt]):=Lib.hid B1.out
     go_upto_region 5 with (fail)
     generalize wr.alloc (.cells #[.string nm,.string sf,.string wt] 76)=W1 at X1 B1 ⊢
     obtain ⟨⟨c0,c1,c3⟩,_⟩:=B1.out.get3
     go_wp2_with fail
     refine (Tryz.strings_TrimPrefix nm ⟨#[119]⟩ W1).mono ?_
     rintro e w1 ⟨rfl,hw1⟩
     have hw1:=hw1.symm
     subst hw1
     have HTs:Hid ((⟨(Lib.trimPrefix nm.data.toList [119]).toArray⟩:ByteArray).size≤140737488355328):=Lib.hid (Nat.le_trans (trim_le nm) HSj.out)
     rcases ha:Lib.atoiAll (Lib.trimPrefix nm.data.toList [119]) with v | _ | _
     · have KA:=Lib.hid (fun W=>atoi_ok ⟨(Lib.trimPrefix nm.data.toList [119]).toArray⟩ v ha HTs.out W)
       by_cases hn:nm=namB v
       · have HR2:Hid (rawN (d.fs.take (j+1))=rawN (d.fs.take j)++[v]):=Lib.hid (by rw [HR.out,show numOf nm=some v by unfold numOf;rw [ha];simp only;rw [if_pos hn]];rfl)
         have es:=same_str nm (namB v)
         rw [decide_eq_true hn] at es
         have KN:=Lib.hid (fun W (q:Q w W)=>name_any v W (HT.out.q q))
         clear ha hn
         generalize namB v=nb at KN es
         go_wp2_with fail
         refine (KA.out _).mono ?_
         rintro e W2 ⟨rfl,q2⟩
         have c0:=box_ q2 c0
         have HQ2:=Lib.hid ((HQ.out.trans X1.out).trans q2)
         go_upto_region 6 with (fail)
         refine wp_region_held_drew (S:=Q W2) (by kernel_rfl) ?szz0 (fun hHeld=>?rzz0)
         case szz0 =>
          exact (Q.refl W2).drew
         refine takH 0 ?_
         refine takH 1 ?_
         refine takH 2 ?_
         refine takH 3 ?_
         refine takeH 4 ?v5 ?y5 ?_
         case y5=>intro w hSw;have x0:=box_ hSw c0;clear hSw;go_simp;try with_reducible rfl
         refine takH 5 ?_
         refine oneH 6 (fun K hK=>?_)
         go_simp
         refine (KN.out _ (HQ2.out.trans hHeld)).mono ?_
         rintro e v3 ⟨rfl,q3⟩
         go_wp2_with fail
         refine hK.out _ _ ?Szz9 (fun hHeld=>?_)
         case Szz9 =>
          exact hHeld.trans q3
         clear hK K
         try simp only [Act.put,sA,sB,sC]
         refine takH 7 ?_
         refine takH 8 ?_
         refine wpAnyH_done (by kernel_rfl) ?_ _
         have HX:=Lib.hid ((X1.out.trans q2).trans hHeld)
         go_wp2_with (at_builtin
                      refine wpl_appK numK rfl (.tmp 31) (.tmp 33) 49 rfl rfl w.heap.size A2 k c2 (rawN (d.fs.take j)) rfl ((HO.out.keep (HX.out.below) (Nat.le_refl _)).alloc (.cells #[.int .i64 v] 3)) (some ⟨v3.heap.size,0,none⟩) 1 1 [v] rfl (lst_lit1 v3 v) (fun e=>by cases e) (by show (k+1)*8≤_;omega) (by have:=(HQ.out.trans HX.out).size;simp;omega) ?_
                      intro A3 c3 w4 ho3 hb3)
         go_roundw
         case rel=>exact ⟨j+1,A3,k+1,c3,by omega,by omega,by go_num,rfl,HR2.out ▸ ho3,((HQ.out.trans HX.out).alloc (.cells #[.int .i64 v] 3)).below.trans hb3⟩
         case measure=>simp [intOf];omega
       · have HR2:Hid (rawN (d.fs.take (j+1))=rawN (d.fs.take j)):=Lib.hid (by rw [HR.out,show numOf nm=none by unfold numOf;rw [ha];simp only;rw [if_neg hn]];simp)
         have es:=same_str nm (namB v)
         rw [decide_eq_false hn] at es
         have KN:=Lib.hid (fun W (q:Q w W)=>name_any v W (HT.out.q q))
         clear ha hn
         generalize namB v=nb at KN es
         go_wp2_with fail
         refine (KA.out _).mono ?_
         rintro e W2 ⟨rfl,q2⟩
         have c0:=box_ q2 c0
         have HQ2:=Lib.hid ((HQ.out.trans X1.out).trans q2)
         go_upto_region 6 with (fail)
         refine wp_region_held_drew (S:=Q W2) (by kernel_rfl) ?szz10 (fun hHeld=>?rzz10)
         case szz10 =>
          exact (Q.refl W2).drew
         refine takH 0 ?_
         refine takH 1 ?_
         refine takH 2 ?_
         refine takH 3 ?_
         refine takeH 4 ?v15 ?y15 ?_
         case y15=>intro w hSw;have x0:=box_ hSw c0;clear hSw;go_simp;try with_reducible rfl
         refine takH 5 ?_
         refine oneH 6 (fun K hK=>?_)
         go_simp
         refine (KN.out _ (HQ2.out.trans hHeld)).mono ?_
         rintro e v3 ⟨rfl,q3⟩
         go_wp2_with fail
         refine hK.out _ _ ?Szz19 (fun hHeld=>?_)
         case Szz19 =>
          exact hHeld.trans q3
         clear hK K
         try simp only [Act.put,sA,sB,sC]
         refine takH 7 ?_
         refine takH 8 ?_
         refine wpAnyH_done (by kernel_rfl) ?_ _
         have HX:=Lib.hid ((X1.out.trans q2).trans hHeld)
         go_wp2
         go_roundw
         case rel=>exact ⟨j+1,A2,k,c2,by omega,by omega,by go_num,rfl,HR2.out ▸ HO.out.keep (HX.out.below) (Nat.le_refl _),HQ.out.trans HX.out⟩
         case measure=>simp [intOf];omega
     · have HR2:Hid (rawN (d.fs.take (j+1))=rawN (d.fs.take j)):=Lib.hid (by rw [HR.out,show numOf nm=none by unfold numOf;rw [ha]];simp)
       have KA:=Lib.hid (fun W=>atoi_no ⟨(Lib.trimPrefix nm.data.toList [119]).toArray⟩ (fun v e=>by rw [show (⟨(Lib.trimPrefix nm.data.toList [119]).toArray⟩:ByteArray).data.toList=Lib.trimPrefix nm.data.toList [119] from rfl,ha] at e;cases e) HTs.out W)
       clear ha
       go_wp2_with fail
       refine (KA.out _ (HE.out.q (HQ.out.trans X1.out))).mono ?_
       rintro e W2 ⟨v,t,p,rfl,q2⟩
       have c0:=box_ q2 c0
       have HQ2:=Lib.hid ((HQ.out.trans X1.out).trans q2)
       go_upto_region 6 with (fail)
       refine wp_region_held_drew (S:=Q W2) (by kernel_rfl) ?szz20 (fun hHeld=>?rzz20)
       case szz20 =>
        exact (Q.refl W2).drew
       refine takH 0 ?_
       refine takH 1 ?_
       refine takH 2 ?_
       refine skipH 3 ?_
       refine skipH 4 ?_
       refine skipH 5 ?_
       refine skipH 6 ?_
       refine skipH 7 ?_
       refine takH 8 ?_
       refine wpAnyH_done (by kernel_rfl) ?_ _
       have HX:=Lib.hid ((X1.out.trans q2).trans hHeld)
       go_wp2
       go_roundw
       case rel=>exact ⟨j+1,A2,k,c2,by omega,by omega,by go_num,rfl,HR2.out ▸ HO.out.keep (HX.out.below) (Nat.le_refl _),HQ.out.trans HX.out⟩
       case measure=>simp [intOf];omega
     · have HR2:Hid (rawN (d.fs.take (j+1))=rawN (d.fs.take j)):=Lib.hid (by rw [HR.out,show numOf nm=none by unfold numOf;rw [ha]];simp)
       have KA:=Lib.hid (fun W=>atoi_no ⟨(Lib.trimPrefix nm.data.toList [119]).toArray⟩ (fun v e=>by rw [show (⟨(Lib.trimPrefix nm.data.toList [119]).toArray⟩:ByteArray).data.toList=Lib.trimPrefix nm.data.toList [119] from rfl,ha] at e;cases e) HTs.out W)
       clear ha
       go_wp2_with fail
       refine (KA.out _ (HE.out.q (HQ.out.trans X1.out))).mono ?_
       rintro e W2 ⟨v,t,p,rfl,q2⟩
       have c0:=box_ q2 c0
       have HQ2:=Lib.hid ((HQ.out.trans X1.out).trans q2)
       go_upto_region 6 with (fail)
       refine wp_region_held_drew (S:=Q W2) (by kernel_rfl) ?szz30 (fun hHeld=>?rzz30)
       case szz30 =>
        exact (Q.refl W2).drew
       refine takH 0 ?_
       refine takH 1 ?_
       refine takH 2 ?_
       refine skipH 3 ?_
       refine skipH 4 ?_
       refine skipH 5 ?_
       refine skipH 6 ?_
       refine skipH 7 ?_
       refine takH 8 ?_
       refine wpAnyH_done (by kernel_rfl) ?_ _
       have HX:=Lib.hid ((X1.out.trans q2).trans hHeld)
       go_wp2
       go_roundw
       case rel=>exact ⟨j+1,A2,k,c2,by omega,by omega,by go_num,rfl,HR2.out ▸ HO.out.keep (HX.out.below) (Nat.le_refl _),HQ.out.trans HX.out⟩
       case measure=>simp [intOf];omega
   · have ej:n=j:=by omega
     subst ej
     have hnl:d.fs.take n=d.fs:=List.take_of_length_le (by rw [HL.out];exact Nat.le_refl _)
     rw [hnl] at HO
     go_wp2_with fail
     refine (sort_any A2 k c2 w.heap.size _ wr HO.out HQ.out.size (by omega)).mono ?_
     rintro e w1 ⟨rfl,ho1,q1⟩
     have HO1:=Lib.hid ho1
     have HQ1:=Lib.hid (HQ.out.below.trans q1)
     clear ho1 q1 hnl HO
     go_wp2_with fail
     refine (compact_any A2 k c2 w.heap.size _ w1 HO1.out HQ1.out.size).mono ?_
     rintro e w2 ⟨rfl,ho2,q2⟩
     have HO2:=Lib.hid ho2
     have HQ2:Hid (Q w w2):=Lib.hid (HQ1.out.trans q2)
     clear ho2 q2
     go_wp2
     go_ret
     refine ⟨A2,_,c2,rfl,HO2.out.lst.ints,Nat.le_trans HO2.out.le HO2.out.cap,fun ad e=>?_,HQ2.out⟩
     rcases HO2.out.parts with ⟨e0,_⟩ | ⟨g,cur,e0,hb,_⟩
     · rw [e0] at e;cases e
     · rw [e0] at e;injection e with e;subst e;exact hb
end
section
open Dkm Du
def Ns (B:Nat) (l:List Fil):Prop:=∀ f∈l,f.nm.size≤B
section
variable {B:Nat} {d:Dk}
theorem ns_set {l:List Fil} (h:Ns B l) {k:Nat} {f:Fil} (hf:f.nm.size≤B):Ns B (l.set k f):=fun g hg=>by
 rcases List.mem_or_eq_of_mem_set hg with hg | rfl
 · exact h g hg
 · exact hf
theorem ns_appd (h:Ns B d.fs) {nm:ByteArray} (hn:nm.size≤B) (s:ByteArray):Ns B (appd d nm s).1.fs:=by
 unfold appd
 split
 · exact h
 split
 · exact h
 split
 · exact h
 split
 · exact h
 show Ns B (Dkm.put d.fs _ _)
 unfold Dkm.put
 rcases plc_cases nm d.fs with ⟨_,hall⟩ | ⟨k,hk,_,hkn,hf⟩
 · rw [opn_none hall]
   simp only [if_true]
   exact fun g hg=>by
    rcases List.mem_append.1 hg with hg | hg
    · exact h g hg
    · rw [List.mem_singleton] at hg;subst hg;exact hn
 · rw [opn_at hk hkn hf,if_neg (by simp only;omega)]
   exact ns_set h (by show d.fs[k].nm.size≤B;exact h _ (List.getElem_mem hk))
theorem ns_syn (h:Ns B d.fs) (nm:ByteArray):Ns B (syn d nm).1.fs:=by
 unfold syn
 split
 · exact h
 split
 · rename_i hh
   obtain ⟨k,hk,hkn,hf,e1,e2⟩:=hit_some (nm:=nm) (l:=d.fs) hh
   show Ns B (d.fs.set _ _)
   rw [e2,e1]
   exact ns_set h (show d.fs[k].nm.size≤B from h _ (List.getElem_mem hk))
 · exact h
theorem ns_del (h:Ns B d.fs) (nm:ByteArray):Ns B (del d nm).1.fs:=by
 unfold del
 split
 · exact h
 split
 · exact h
 split
 · rw [pow_fs_];exact h
 · show Ns B ((pow d).1.fs.eraseIdx _)
   rw [pow_fs_];exact fun g hg=>h g (List.mem_of_mem_eraseIdx hg)
theorem ns_ren (h:Ns B d.fs) (fr:ByteArray) {tu:ByteArray} (hn:tu.size≤B):Ns B (ren d fr tu).1.fs:=by
 unfold ren
 split
 · exact h
 split
 · exact h
 split
 · exact h
 rename_i h3
 split
 · exact h
 split
 · rw [pow_fs_];exact h
 obtain ⟨k,hk,hkn,hf,e1,e2⟩:=hit_some (nm:=fr) (l:=d.fs) (by simpa using h3)
 have hfk:d.fs.getD k ⟨⟨#[]⟩,⟨#[]⟩,⟨#[]⟩⟩=d.fs[k]:=by simp [hk]
 have hnm:(nmd (pow d).1 (opn fr d.fs).2 tu).fs=d.fs.set k ⟨tu,d.fs[k].sf,d.fs[k].wt⟩:=by
  unfold nmd;rw [pow_fs_,e2,hfk]
 have hs:Ns B (d.fs.set k ⟨tu,d.fs[k].sf,d.fs[k].wt⟩):=ns_set h hn
 cases ht:(hit tu d.fs).2 with
 | false =>
   simp only [Bool.false_eq_true,if_false]
   rw [hnm];exact hs
 | true =>
   simp only [if_true]
   show Ns B ((nmd (pow d).1 (opn fr d.fs).2 tu).fs.eraseIdx _)
   rw [hnm];exact fun g hg=>hs g (List.mem_of_mem_eraseIdx hg)
theorem ns_lay1 (h:Ns B d.fs) (nm:ByteArray):Ns B (Rn.lay1 d nm).1.fs:=by unfold Rn.lay1;split;exact ns_del h _;exact h
theorem ns_lay (h:Ns B d.fs) {nm:ByteArray} (hn:nm.size≤B) (hf:(Rn.freshB nm).size≤B) (s:ByteArray):Ns B (Rn.lay d nm s).1.fs:=by
 have h1:=ns_lay1 h nm
 have h2:Ns B (Rn.lay2 d nm s).1.fs:=by unfold Rn.lay2;split;exact ns_appd h1 hf s;exact h1
 have h3:Ns B (Rn.lay3 d nm s).1.fs:=by unfold Rn.lay3;split;exact ns_syn h2 _;exact h2
 unfold Rn.lay
 split
 · exact ns_ren h3 _ hn
 · exact h3
end
end
section
open Go.RowKit Dkm Prm Km Wm
theorem wdrop_any (from_ til:Int) (A:Option Addr) (n c:Nat) (d:Dk) (w:World) (hT:Tab w) (hE:Errs w) (hd:Dsk w A n c d.fs) (hB:Bnd 2305843009213693952 d) (hN:Ns 140737488355328 d.fs) :
    Calls Tryz.prog 158 #[dkv A n c d.room d.fuse d.off,.int .i64 from_,.int .i64 til] w (RetD0 w (drpM d from_ til)):=by
  refine (wdrop_of from_ til A n c d (prsN d.fs) w hT hd hB (Lib.hid fun A n c W q h=>present_any A n c d W (hT.q q) (hE.q q) h hN)).mono ?_
  rintro e w' ⟨A',n',c',he,h1,_,q⟩
  have hR:drops (fil from_ til (prsN d.fs)) d=drpM d from_ til:=(drpM_drops d from_ til).symm
  rw [hR] at he h1
  exact ⟨A',n',c',he,h1,q⟩
theorem sweep_any (p:Kp) (x:Ks) (til:Int) (A:Option Addr) (n c:Nat) (d:Dk) (w:World) (hT:Tab w) (hE:Errs w) (hd:Dsk w A n c d.fs) (hB:Bnd 2305843009213693952 d) (hN:Ns 140737488355328 d.fs) :
    Calls Tryz.prog 105 #[dkv A n c d.room d.fuse d.off,kvV p x,.int .i64 til] w (RetD0 w (swpM d x.run x.frm til)):=by
  have hB2:Bnd 2305843009213693952 (if (hit (rnamB x.run) d.fs).2 then del d (rnamB x.run) else (d,0)).1:=by split;exact hB.del _;exact hB
  have hN2:Ns 140737488355328 (if (hit (rnamB x.run) d.fs).2 then del d (rnamB x.run) else (d,0)).1.fs:=by split;exact ns_del hN _;exact hN
  refine (sweep_of p x til A n c d (drpM (if (hit (rnamB x.run) d.fs).2 then del d (rnamB x.run) else (d,0)).1 x.frm til) w hT hd hB (Lib.hid fun A n c W q h=>wdrop_any x.frm til A n c _ W (hT.q q) (hE.q q) h hB2 hN2)).mono ?_
  intro e w' h
  unfold swpM swpB
  exact h
end
section
open Go.RowKit Dkm Prm Km Wm
def chkLC (x:Ks) (q:Dk×Int):Ks×Int:=({ x with d:=q.1 },q.2)
def chkLB (x:Ks) (q:Dk×Int):Ks×Int:=
  if q.2≠0 then ({ x with d:=q.1 },q.2) else chkLC { x with frm:=x.seg+1,seg:=x.seg+1,run:=x.run+1 } (swpM q.1 x.run x.frm (x.seg+1))
def chkLA (x:Ks) (q:Dk×Int):Ks×Int:=
  if q.2≠0 then ({ x with d:=q.1 },q.2) else chkLB x (Rn.lay q.1 mB (manB (x.seg+1) (x.run+1)))
def chkL (x:Ks):Ks×Int:=
  if x.down=true then (x,6)
  else if 1000000≤x.seg∨1000000≤x.run then (x,5)
  else if (rbM (Bm.pairs x.s)).2≠0 then (x,(rbM (Bm.pairs x.s)).2)
  else chkLA x (Rn.lay x.d (rnamB (x.run+1)) ⟨(rbM (Bm.pairs x.s)).1.toArray⟩)
theorem chkLC_eq {x:Ks} (q:Dk×Int) (h:x.down=false):chkC x q=(Ks.gon (chkLC x q).1 (chkLC x q).2,(chkLC x q).2):=by
 unfold chkC chkLC
 by_cases h0:q.2≠0
 · rw [if_pos h0];exact gon_bad h
 · have e:q.2=0:=by simpa using h0
   rw [if_neg h0,e];rfl
theorem chkLB_eq {x:Ks} (q:Dk×Int) (h:x.down=false):chkB x q=(Ks.gon (chkLB x q).1 (chkLB x q).2,(chkLB x q).2):=by
 unfold chkB chkLB
 by_cases h0:q.2≠0
 · rw [if_pos h0,if_pos h0];exact gon_bad h
 · rw [if_neg h0,if_neg h0];exact chkLC_eq (x:={ x with frm:=x.seg+1,seg:=x.seg+1,run:=x.run+1 }) _ h
theorem chkLA_eq {x:Ks} (q:Dk×Int) (h:x.down=false):chkA x q=(Ks.gon (chkLA x q).1 (chkLA x q).2,(chkLA x q).2):=by
 unfold chkA chkLA
 by_cases h0:q.2≠0
 · rw [if_pos h0,if_pos h0];exact gon_bad h
 · rw [if_neg h0,if_neg h0];exact chkLB_eq _ h
theorem rbM_six (l:List Pr):(rbM l).2≠6:=by
 unfold rbM
 split<;>simp
theorem chkL_chkM (x:Ks):chkM x=(Ks.gon (chkL x).1 (chkL x).2,(chkL x).2):=by
 unfold chkM chkL
 by_cases hd:x.down=true
 · rw [if_pos hd,if_pos hd]
   unfold Ks.gon
   rw [if_pos rfl,←hd]
 · have hd':x.down=false:=by simpa using hd
   rw [if_neg hd,if_neg hd]
   by_cases hf:1000000≤x.seg∨1000000≤x.run
   · rw [if_pos hf,if_pos hf]
     unfold Ks.gon
     rw [if_neg (show ¬ ((5:Int)=6) by decide)]
   · rw [if_neg hf,if_neg hf]
     have h6:=rbM_six (Bm.pairs x.s)
     by_cases h0:(rbM (Bm.pairs x.s)).2≠0
     · rw [if_pos h0,if_pos h0]
       unfold Ks.gon
       rw [if_neg h6]
     · rw [if_neg h0,if_neg h0];exact chkLA_eq _ hd'
section
variable {x:Ks}
theorem chkL_down (h:x.down=true):chkL x=(x,6):=by unfold chkL;rw [if_pos h]
theorem chkL_full (h:x.down=false) (hf:1000000≤x.seg∨1000000≤x.run):chkL x=(x,5):=by unfold chkL;rw [if_neg (by rw [h];decide),if_pos hf]
theorem chkL_no (h:x.down=false) (hf:¬ (1000000≤x.seg∨1000000≤x.run)) {r:List UInt8} {er:Int} (hb:rbM (Bm.pairs x.s)=(r,er)) (h0:er≠0):chkL x=(x,er):=by
 unfold chkL
 rw [hb,if_neg (by rw [h];decide),if_neg hf,if_pos h0]
theorem chkL_lay (h:x.down=false) (hf:¬ (1000000≤x.seg∨1000000≤x.run)) {r:List UInt8} (hb:rbM (Bm.pairs x.s)=(r,0)) {d1:Dk} {e1:Int} (h1:Rn.lay x.d (rnamB (x.run+1)) ⟨r.toArray⟩=(d1,e1)) :
    chkL x=chkLA x (d1,e1):=by
  unfold chkL
  rw [hb,if_neg (by rw [h];decide),if_neg hf,if_neg (by simp),h1]
theorem chkLA_no {d1:Dk} {e1:Int} (h0:e1≠0):chkLA x (d1,e1)=({ x with d:=d1 },e1):=by unfold chkLA;rw [if_pos h0]
theorem chkLA_ok {d1 d2:Dk} {e2:Int} (h2:Rn.lay d1 mB (manB (x.seg+1) (x.run+1))=(d2,e2)):chkLA x (d1,0)=chkLB x (d2,e2):=by unfold chkLA;rw [if_neg (by simp),h2]
theorem chkLB_no {d1:Dk} {e1:Int} (h0:e1≠0):chkLB x (d1,e1)=({ x with d:=d1 },e1):=by unfold chkLB;rw [if_pos h0]
theorem chkLB_ok {d2 d3:Dk} {e3:Int} (h3:swpM d2 x.run x.frm (x.seg+1)=(d3,e3)):chkLB x (d2,0)=({ x with d:=d3,frm:=x.seg+1,seg:=x.seg+1,run:=x.run+1 },e3):=by
 unfold chkLB
 rw [if_neg (by simp),h3]
 rfl
end
end
section
open Go.RowKit Prm
variable {α:Type}
theorem zeros_row0 (K:Kind α) (w:World) (base:Nat) (tn:TypeId) (htn:Tryz.prog.underlying tn=some (.int .i64)) (ty:TypeId) (m:Nat)
    (hm:0<m) (hb:m*K.bs≤140737488355328) (hbase:base≤w.heap.size) :
    ∃ G w' xs,(Builtin.append_ #[K.S,tn] ty #[.slice none 0 0,.int .i64 (m:Int)]).run Tryz.prog w=.ok (.slice (some ⟨w.heap.size,0,none⟩) m G) w'∧RowK K w' base w.heap.size G xs∧m≤G∧Q w w'∧G≤maxLen:=by
  obtain ⟨t,hi,hz,hs,hy⟩:=info_parts K.info
  have hmax:m≤maxLen:=by
   have:m*1≤m*K.bs:=Nat.mul_le_mul_left _ K.bpos
   unfold maxLen;omega
  have hGm:=grownCap_le_maxLen w (0+m) 0 K.T (by omega)
  have hGn:=grownCap_ge w (0+m) 0 K.T
  have hmb:m*t.bytes≤281474976710656:=by rw [hy];omega
  have h:=Lib.run_append_grow_zeros (P:=Tryz.prog) w K.S tn ty K.T t K.z .i64 .i64 K.und htn hi hz none 0 0 []
    (run_firstCells_none (P:=Tryz.prog) (w:=w.drew) _ 0 0 0) m hm (by rw [hs];exact K.pos) (by omega) (by unfold maxLen at hmax;omega) hmb (by rw [hy];exact growslice_fits (by omega) (by rw [Nat.zero_add];exact hb))
  rw [Nat.zero_add] at h hGm hGn
  generalize grownCap w m 0 K.T=G at h hGm hGn
  have hsz:((#[]:Array Value)++Builtin.zeroCells K.z.cells m++Builtin.zeroCells K.z.cells (G - m)).size=G*K.k:=by
   simp only [Array.size_append,zeros_size,K.zc,List.size_toArray]
   simp only [List.size_toArray,List.length_nil,Array.size_empty,Nat.zero_add]
   rw [←Nat.add_mul]
   congr 1
   omega
  exact ⟨G,_,_,h,World.ownsRow_lit (e:=K.T) (size:=K.k) w.drew _ G hbase hGm hsz,hGn,(Q.refl w).drew.alloc _,hGm⟩
theorem wpl_zerosK0 (K:Kind α) {w:World} {ops:Array Oper} {rest:List Oper} {o:Oper} {a:Act} {R:Exit→Act→World→Prop} (hgd:o.guard=none) (s x:Operand) (t tn:TypeId) (ht:t=K.S) (htn:Tryz.prog.underlying tn=some (.int .i64))
    (ho:o.op=.call { callee:=.builtin .append,args:=#[s,x],argTypes:=#[t,tn] }) (base:Nat) (m:Nat) (hs:a.eval s=.slice none 0 0) (hx:a.eval x=.int .i64 (m:Int))
    (hm:0<m) (hb:m*K.bs≤140737488355328) (hbase:base≤w.heap.size)
    (hk:∀ G w' xs,RowK K w' base w.heap.size G xs→m≤G→Q w w'→G≤maxLen→wpList Tryz.prog ops R rest (a.put o.dst (.slice (some ⟨w.heap.size,0,none⟩) m G)) w'):wpList Tryz.prog ops R (o :: rest) a w:=by
  subst ht
  refine wpList_plain hgd fun X hX=>?_
  obtain ⟨G,w',xs,hr,h1,h2,h3,h4⟩:=zeros_row0 K w base tn htn o.type m hm hb hbase
  unfold Oper.wp execOp
  simp only [ho,resolve,invoke,builtin,Sem.run_bind,Sem.run_pure,Result.andThen_ok,List.map_toArray,List.map_cons,List.map_nil,hs,hx,hr]
  exact hX _ _ (hk G w' xs h1 h2 h3 h4)
def Two (w:World) (b:Nat) (A:Option Addr) (n c:Nat) (B:Option Addr) (m d:Nat):Prop:=Bx w b [.slice A n c,.slice B m d]
end
section
open Go.RowKit Prm
variable {α:Type}
set_option maxHeartbeats 2000000 in
theorem growP_any (m:Nat) (w:World) (hb:m*32≤140737488355328) :
    Calls Tryz.prog 184 #[.slice none 0 0,.int .i64 (m:Int)] w fun e w'=>RetL pairK w 0 [] e w':=by
  have hm:m≤9223372036854775807:=by omega
  by_cases h0:0<m
  · have h1 : (0 : Int)<(m:Int):=by omega
    have HB:=Lib.hid hb
    clear hb
    go_enter Tryz.func184,Tryz.ntmps184
    go_wp2_with (at_builtin
                 refine wpl_zerosK0 pairK rfl (.tmp 20) (.tmp 21) 28 3 rfl Tryz.underlying3 rfl w.heap.size m rfl rfl h0 HB.out (Nat.le_refl _) ?_
                 intro G w1 xs hrow hG q1 hGm)
    go_ret
    exact ⟨_,G,rfl,hrow.own (Nat.zero_le _) (by simp [Kind.rows]),q1⟩
  · have h1:m=0:=by omega
    subst h1
    clear hb
    go_enter Tryz.func184,Tryz.ntmps184
    go_wp2
    go_ret
    exact ⟨none,0,rfl,OwnK.nil_ _ _ _,Q.refl _⟩
def TwoP (w:World) (b:Nat) (A:Option Addr) (n c:Nat) (B:Option Addr) (m d:Nat):Prop:=Bx w b [.slice A n c,.slice B m d]
set_option maxHeartbeats 4000000 in
theorem concatP_any (b:Nat) (A B:Option Addr) (n c m d:Nat) (l l2:List Pr) (w:World) (hb:TwoP w b A n c B m d) (h1:In_ pairK w A n c l) (h2:In_ pairK w B m d l2) (hs:(n+m)*32≤140737488355328) :
    Calls Tryz.prog 153 #[.slice (some ⟨b,0,none⟩) 2 2] w fun e w'=>RetL pairK w (n+m) (l++l2) e w':=by
  obtain ⟨x0,_⟩:=hb 0 _ rfl
  obtain ⟨x1,_⟩:=hb 1 _ rfl
  have H1:=Lib.hid h1
  have H2:=Lib.hid h2
  have HS:=Lib.hid hs
  have X0:=Lib.hid x0
  have X1:=Lib.hid x1
  have hn:n≤9223372036854775807:=by have:=h1.max;unfold maxLen at this;exact this
  have hm:m≤9223372036854775807:=by have:=h2.max;unfold maxLen at this;exact this
  have hnm:n+m≤4611686018427387904:=by omega
  have hnm2:(n:Int)+(m:Int)≤4611686018427387904:=by omega
  clear h1 h2 hs hb x0 x1
  go_enter Tryz.func153,Tryz.ntmps153
  go_wp2
  go_loopw [3,11] (fun s3 s11 wr=>w=wr∧((s3=.int .i64 0∧s11=.int .i64 0)∨(s3=.int .i64 (n:Int)∧s11=.int .i64 1)∨(s3=.int .i64 ((n+m:Nat):Int)∧s11=.int .i64 2))) (fun _ s11 _=>(2 - intOf s11).toNat)
  case atStart=>exact ⟨rfl,.inl ⟨rfl,rfl⟩⟩
  case round =>
   obtain ⟨rfl,⟨rfl,rfl⟩ | ⟨rfl,rfl⟩ | ⟨rfl,rfl⟩⟩:=hrel
   · have x0:=X0.out
     go_wp2
     go_roundw
     case rel=>exact ⟨trivial,.inr (.inl ⟨by first | rfl | go_num,rfl⟩)⟩
     case measure=>simp [intOf]
   · have x1:=X1.out
     go_wp2
     go_roundw
     case rel=>exact ⟨trivial,.inr (.inr ⟨by first | rfl | go_num | (congr 1;omega),rfl⟩)⟩
     case measure=>simp [intOf]
   · go_wp2_with fail
     refine (growP_any (n+m) _ HS.out).mono ?_
     rintro e w2 ⟨A2,c2,rfl,o2,q2⟩
     have O2:=Lib.hid o2
     have Q2:=Lib.hid q2
     clear o2 q2
     go_wp2
     go_loopw [6,27] (fun s6 s27 wy=>Q w wy∧((∃ A3 c3,s6=.slice A3 0 c3∧OwnK pairK wy w.heap.size A3 0 c3 []∧s27=.int .i64 0)∨(∃ A3 c3,s6=.slice A3 n c3∧OwnK pairK wy w.heap.size A3 n c3 l∧s27=.int .i64 1)∨(∃ A3 c3,s6=.slice A3 (n+m) c3∧OwnK pairK wy w.heap.size A3 (n+m) c3 (l++l2)∧s27=.int .i64 2))) (fun _ s27 _=>(2 - intOf s27).toNat)
     case atStart=>exact ⟨Q2.out,.inl ⟨A2,c2,rfl,O2.out,rfl⟩⟩
     case round =>
      obtain ⟨q,⟨A3,c3,rfl,o3,rfl⟩ | ⟨A3,c3,rfl,o3,rfl⟩ | ⟨A3,c3,rfl,o3,rfl⟩⟩:=hrel
      · have QQ:=Lib.hid q
        have O3:=Lib.hid o3
        have x0:=box_ q X0.out
        clear q o3
        go_wp2_with (at_builtin
                     refine wpl_appK pairK rfl (.tmp 31) (.tmp 32) 28 rfl rfl w.heap.size A3 0 c3 [] rfl O3.out A n c l rfl (H1.out.lst.q QQ.out) H1.out.nil (by have:=HS.out;show (0+n)*32≤_;omega) QQ.out.size ?_
                     intro A5 c5 w5 o5 b5
                     have S5:=Lib.hid (show Q w w5∧OwnK pairK w5 w.heap.size A5 n c5 l from ⟨QQ.out.below.trans b5,by simpa using o5⟩)
                     clear o5 b5)
        go_roundw
        case rel=>exact ⟨S5.out.1,.inr (.inl ⟨A5,c5,by simp,S5.out.2,rfl⟩)⟩
        case measure=>simp [intOf]
      · have QQ:=Lib.hid q
        have O3:=Lib.hid o3
        have x1:=box_ q X1.out
        clear q o3
        go_wp2_with (at_builtin
                     refine wpl_appK pairK rfl (.tmp 31) (.tmp 32) 28 rfl rfl w.heap.size A3 n c3 l rfl O3.out B m d l2 rfl (H2.out.lst.q QQ.out) H2.out.nil HS.out QQ.out.size ?_
                     intro A5 c5 w5 o5 b5
                     have S5:=Lib.hid (show Q w w5∧OwnK pairK w5 w.heap.size A5 (n+m) c5 (l++l2) from ⟨QQ.out.below.trans b5,o5⟩)
                     clear o5 b5)
        go_roundw
        case rel=>exact ⟨S5.out.1,.inr (.inr ⟨A5,c5,by simp,S5.out.2,rfl⟩)⟩
        case measure=>simp [intOf]
      · go_wp2
        go_ret
        exact ⟨A3,c3,rfl,o3,q⟩
end
section
open Go.RowKit Prm
theorem Bm.marked_snoc (m:UInt8) (l:List Pr) {k:Nat} (hk:k<l.length):Bm.marked m (l.take (k+1))=Bm.marked m (l.take k)++[Bm.mk1 m l[k]]:=by
 unfold Bm.marked;rw [List.take_succ_eq_append_getElem hk,List.map_append];rfl
def KeysLow (l:List Pr):Prop:=∀ p∈l,p.key.size≤4611686018427387904
set_option maxHeartbeats 1000000 in
theorem marked_any (mb:UInt8) (A:Option Addr) (n c:Nat) (l:List Pr) (w:World) (hf:Lst pairK w A n l) (hb:n*32≤140737488355328) (hks:KeysLow l) :
    Calls Tryz.prog 154 #[.string ⟨#[mb]⟩,.slice A n c] w (RetL pairK w n (Bm.marked mb l)):=by
  have HF:=Lib.hid hf
  have HL:=Lib.hid hf.len
  have HK:=Lib.hid hks
  have hlit:(⟨#[mb]⟩:ByteArray).size=1:=rfl
  clear hf hks
  go_enter Tryz.func154,Tryz.ntmps154
  go_wp2
  go_loopw [5,10] (fun s3 i wr=>∃ (k:Nat) (B:Option Addr) (d:Nat),k≤n∧i=.int .i64 k∧s3=.slice B k d∧OwnK pairK wr w.heap.size B k d (Bm.marked mb (l.take k))∧Q w wr) (fun _ i _=>n - (intOf i).toNat)
  case atStart=>exact ⟨0,none,0,Nat.zero_le _,rfl,rfl,OwnK.nil_ _ _ _,Q.refl _⟩
  case round =>
   obtain ⟨k,B,d,hk,rfl,rfl,o1,q1⟩:=hrel
   have HO:=Lib.hid o1
   have HQ:=Lib.hid q1
   clear o1 q1
   by_cases hlt:k<n
   · have hkl : k < l.length:=by have:=HL.out;omega
     have HN:=Lib.hid (Bm.marked_snoc mb l hkl)
     have hky:=HK.out l[k] (List.getElem_mem hkl)
     obtain ⟨ad,rfl,hab,x0,x1⟩:=load_pair (HF.out.q HQ.out) hlt hkl
     generalize l[k]=x at x0 x1 HN hky
     generalize Bm.marked mb (l.take k)=ks at HO HN
     have hc1:¬(9223372036854775807<1+x.key.size):=by omega
     have HE:=Lib.hid (show (⟨#[mb]⟩:ByteArray)++x.key=(Bm.mk1 mb x).key from app_list [mb] x.key)
     go_wp2_with (at_builtin
                  refine wpl_appK pairK rfl (.tmp 14) (.tmp 22) 28 rfl rfl w.heap.size B k d ks rfl ((HO.out.alloc _).alloc _) (some ⟨wr.heap.size+1,0,none⟩) 1 1 [Bm.mk1 mb x] rfl (by have:=lit_pair (wr.alloc (.cells #[.string x.key,.string x.val] 83)) (Bm.mk1 mb x);rw [←HE.out] at this;simpa [Bm.mk1] using this) (fun e=>by cases e) (by show (k+1)*32≤_;omega) (by have:=HQ.out.size;simp;omega) ?_
                  intro A5 c5 w5 o5 b5
                  have O5:=Lib.hid o5
                  have Q5:=Lib.hid (show Q w w5 from ((HQ.out.alloc _).alloc _).below.trans b5)
                  clear o5 b5)
     go_roundw
     case rel=>exact ⟨k+1,A5,c5,by omega,by go_num,rfl,by rw [HN.out];exact O5.out,Q5.out⟩
     case measure=>simp [intOf];omega
   · have hkn:k=n:=by omega
     subst hkn
     have HR:=Lib.hid (show Bm.marked mb (l.take k)=Bm.marked mb l by rw [List.take_of_length_le (by have:=HL.out;omega)])
     go_wp2
     go_ret
     exact ⟨B,d,rfl,by rw [←HR.out];exact HO.out,HQ.out⟩
set_option maxHeartbeats 2000000 in
theorem bpairs_any (A B:Option Addr) (n c m d:Nat) (s:Bm.Sta) (w:World) (hA:Lst pairK w A n s.data) (hB:Lst pairK w B m s.toks) (hb:(n+m)*32≤140737488355328) (hk1:KeysLow s.data) (hk2:KeysLow s.toks) :
    Calls Tryz.prog 103 #[staV A n c B m d] w (RetL pairK w (n+m) (Bm.pairs s)):=by
  obtain ⟨l,t⟩:=s
  simp only at hA hB hk1 hk2
  have KA:=Lib.hid (fun W q=>marked_any 100 A n c l W (hA.q q) (by omega) hk1)
  have KB:=Lib.hid (fun W q=>marked_any 116 B m d t W (hB.q q) (by omega) hk2)
  have hn1:n*32≤140737488355328:=by omega
  have hm1:m*32≤140737488355328:=by omega
  clear hA hB hk1 hk2
  go_enter Tryz.func103,Tryz.ntmps103
  go_upto_region 1 with (fail)
  have X:Hid (Bx (w.alloc (.cells #[.slice A n c,.slice B m d] 30)) w.heap.size [.slice A n c,.slice B m d]∧Q w (w.alloc (.cells #[.slice A n c,.slice B m d] 30))∧w.heap.size+1≤(w.alloc (.cells #[.slice A n c,.slice B m d] 30)).heap.size):=
    Lib.hid ⟨Bx.new w [.slice A n c,.slice B m d] 30,(Q.refl w).alloc _,by simp⟩
  generalize w.alloc (.cells #[.slice A n c,.slice B m d] 30)=w2 at X ⊢
  obtain ⟨⟨c0,c1⟩,_⟩:=X.out.1.get2
  go_wp2
  go_region_held3 (fun w'=>w'.cell? ⟨w.heap.size,0,none⟩=some (.slice A n c)∧w'.cell? ⟨w.heap.size,1,none⟩=some (.slice B m d))
    (first
      | go_keep
      | (go_split_ands
         (repeat' apply And.intro)<;>exact box_ ‹Q _ _› (by assumption)))
    (first
      | (go_at_call 154
         (with_reducible refine (KA.out _ X.out.2.1.drew).mono ?_)
         rintro e w3 ⟨A3,c3,rfl,o3,y3⟩)
      | (go_at_call 154
         (with_reducible refine (KB.out _ (X.out.2.1.drew.trans y3)).mono ?_)
         rintro e w4 ⟨A4,c4,rfl,o4,y4⟩
         have y5:Q w4 (w4.alloc (.cells #[.slice A3 n c3,.slice A4 m c4] 28)):=(Q.refl _).alloc _)
      | (go_at_call 153
         refine (concatP_any w4.heap.size A3 A4 n c3 m c4 _ _ _ (Bx.new w4 [.slice A3 n c3,.slice A4 m c4] 28) (((o3.q y4).alloc _).in_ hn1) ((o4.alloc _).in_ hm1) hb).mono ?_
         rintro e w6 ⟨A6,c6,rfl,o6,y6⟩))
  have HO:=Lib.hid o6
  have HY:=Lib.hid ((((X.out.2.1.drew.trans y3).trans y4).trans y5).trans y6)
  have HS:=Lib.hid (show w.heap.size≤w4.heap.size from ((X.out.2.1.drew.trans y3).trans y4).size)
  clear o3 o4 o6 y3 y4 y5 y6
  go_wp2
  go_ret
  exact ⟨A6,c6,rfl,HO.out.lower (by have:=HS.out;simp;omega),HY.out⟩
end
end Go.Proofs.YtajidconlmhjfaaGreatDoor
