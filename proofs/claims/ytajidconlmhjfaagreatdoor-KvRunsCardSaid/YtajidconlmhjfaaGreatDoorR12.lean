/- BatchSame, BatchMayRef, KvOnceW, RunWhole, LayHit, KvChkM, KvLogM, KvLastM, AppK, BatchRun, KvLastW, KvChkW: merged. -/
import Derived.Test.YtajidconlmhjfaaGreatDoorR7
import Derived.Test.YtajidconlmhjfaaGreatDoorR5
import Derived.BigQuiet
import Derived.Test.YtajidconlmhjfaaGreatDoorR11
import Derived.Test.YtajidconlmhjfaaGreatDoorR4
import Derived.Test.YtajidconlmhjfaaGreatDoorR6
import Derived.Test.YtajidconlmhjfaaGreatDoorR8
set_option linter.unusedVariables false
set_option linter.unusedSimpArgs false
set_option maxRecDepth 100000
namespace Go.Proofs.YtajidconlmhjfaaGreatDoor
section
open Go.RowKit Prm
set_option maxHeartbeats 2000000 in
theorem refSameS_any (A B C D:Option Addr) (n c m d p q r s:Nat) (x y:Bm.Sta) (w:World) (h1:In_ pairK w A n c x.data) (h2:In_ pairK w B m d x.toks) (h3:In_ pairK w C p q y.data) (h4:In_ pairK w D r s y.toks) :
    Calls Tryz.prog 30 #[staV A n c B m d,staV C p q D r s] w fun e w'=>e=.returned (.bool (decide (x=y)))∧Q w w':=by
  obtain ⟨xd,xt⟩:=x
  obtain ⟨yd,yt⟩:=y
  simp only at h1 h2 h3 h4
  have KD:=Lib.hid (fun W z=>refSame_any A C n c p q xd yd W (h1.lst.q z) (h3.lst.q z) h1.max h3.max)
  have KT:=Lib.hid (fun W z=>refSame_any B D m d r s xt yt W (h2.lst.q z) (h4.lst.q z) h2.max h4.max)
  have hE:decide (Bm.Sta.mk xd xt=⟨yd,yt⟩)=(decide (xd=yd)&&decide (xt=yt)):=by
   by_cases e1:xd=yd<;>by_cases e2:xt=yt<;>simp [e1,e2]
  have HE:=Lib.hid hE
  clear h1 h2 h3 h4 hE
  generalize decide (Bm.Sta.mk xd xt=⟨yd,yt⟩)=R at HE ⊢
  generalize decide (xd=yd)=r1 at KD HE
  generalize decide (xt=yt)=r2 at KT HE
  go_enter Tryz.func30,Tryz.ntmps30
  go_upto_region 1 with (fail)
  have X:Hid (Bx ((w.alloc (.cells #[.slice A n c,.slice B m d] 30)).alloc (.cells #[.slice C p q,.slice D r s] 30)) w.heap.size [.slice A n c,.slice B m d] ∧
      Bx ((w.alloc (.cells #[.slice A n c,.slice B m d] 30)).alloc (.cells #[.slice C p q,.slice D r s] 30)) (w.heap.size+1) [.slice C p q,.slice D r s] ∧
      Q w ((w.alloc (.cells #[.slice A n c,.slice B m d] 30)).alloc (.cells #[.slice C p q,.slice D r s] 30))):=by
    refine Lib.hid ⟨(Bx.new w [.slice A n c,.slice B m d] 30).alloc _,?_,((Q.refl w).alloc _).alloc _⟩
    have:=Bx.new (w.alloc (.cells #[.slice A n c,.slice B m d] 30)) [.slice C p q,.slice D r s] 30
    simpa using this
  generalize ((w.alloc (.cells #[.slice A n c,.slice B m d] 30)).alloc (.cells #[.slice C p q,.slice D r s] 30))=w2 at X ⊢
  obtain ⟨c0,c1⟩:=X.out.1.get2.1
  obtain ⟨d0,d1⟩:=X.out.2.1.get2.1
  cases r1 with
  | false =>
    go_wp2_with fail
    refine (KD.out _ X.out.2.2).mono ?_
    rintro e w3 ⟨rfl,y3⟩
    have Y3:=Lib.hid (X.out.2.2.trans y3)
    clear y3
    go_wp2_with fail
    go_ret
    exact ⟨ret_bool (by rw [HE.out];rfl),Y3.out⟩
  | true =>
    go_wp2_with fail
    refine (KD.out _ X.out.2.2).mono ?_
    rintro e w3 ⟨rfl,y3⟩
    have Y3:=Lib.hid (And.intro (X.out.2.2.trans y3) (And.intro (X.out.1.q y3) (X.out.2.1.q y3)))
    clear y3 c0 c1 d0 d1
    obtain ⟨c0,c1⟩:=Y3.out.2.1.get2.1
    obtain ⟨d0,d1⟩:=Y3.out.2.2.get2.1
    go_wp2_with fail
    refine (KT.out _ Y3.out.1).mono ?_
    rintro e w4 ⟨rfl,y4⟩
    have Y4:=Lib.hid (Y3.out.1.trans y4)
    clear y4
    cases r2
    all_goals
      go_wp2_with fail
      go_ret
      exact ⟨ret_bool (by rw [HE.out];rfl),Y4.out⟩
end
section
open Go.RowKit Prm
namespace Bm
end Bm
end
section
open Go.RowKit Dkm Prm Km Wm
structure Kg (j:Nat) (x:Ks):Prop where
  kn:Kn j x
  bnd:Bnd 2097152 x.d
  dl:x.s.data.length≤24*j
  tl:x.s.toks.length≤j
theorem Kg.com {j:Nat} {x:Ks} (h:Kg j x) (b:Bm.Bt):Kg (j+1) (comM x b).1:=by
 have h1:=h.dl
 have h2:=h.tl
 have h3:=Bm.doo_len x.s b
 refine ⟨(h.kn.com b).1,Bnd.com h.bnd (by omega) b,?_,?_⟩
 all_goals
   by_cases he:(comM x b).2=0
   · rw [(comM_ok he).2];omega
   · rw [comM_bad he];omega
theorem Kg.crash {j:Nat} {x:Ks} (h:Kg j x) (ks:List Int):(crsM x ks).2=0∧Kg j (crsM x ks).1∧(crsM x ks).1.s=x.s∧(recM (crs x.d ks) 1).2.1.length≤j∧(redd mB (crs x.d ks).fs).2≠0:=by
 obtain ⟨c1,c2,c3,c4,c5⟩:=h.kn.crash ks
 refine ⟨c1,⟨c2,?_,by rw [c3];exact h.dl,by rw [c3];exact h.tl⟩,c3,c4,c5⟩
 obtain ⟨w,_,hd,_⟩:=c2.log
 have hc:(crsM x ks).1.d=crs x.d ks:=by
  have e:=c1
  have:crsM x ks=opnC 1 0 ⟨[],[]⟩ (recM (crs x.d ks) 1):=openM_no c5
  rw [this] at e ⊢
  obtain ⟨seg,e2,_⟩:∃ seg,recM (crs x.d ks) 1=(crs x.d ks,(recM (crs x.d ks) 1).2.1,seg,0)∧True:=by
   obtain ⟨w,hI,hd,hseg,hdead,hsafe,_⟩:=h.kn.log
   obtain ⟨seg,e3,_⟩:=crash_safe hI hsafe hdead ks
   rw [hd] at e3
   exact ⟨seg,by rw [e3],trivial⟩
  rw [e2] at e ⊢
  unfold opnC at e ⊢
  rw [if_neg (by simp)] at e ⊢
  unfold endM at e ⊢
  split
  · rename_i hn;rw [hn] at e;exact absurd e (by simp)
  · rfl
 rw [hc]
 exact Bnd.crsK h.bnd ks
theorem kg_new {room:Int} (h0:0≤room) (h1:room≤9223372036854775807):Kg 0 ⟨⟨[],room,-1,false⟩,1,1,0,⟨[],[]⟩,false⟩:=by
 have:=open_kn room
 rw [open_new] at this
 exact ⟨this,⟨by simp,by simp,⟨by show (-9223372036854775808:Int)≤room;omega,h1⟩,⟨by simp,by simp⟩⟩,Nat.zero_le _,Nat.zero_le _⟩
theorem rec_new (room fuse:Int):recM ⟨[],room,fuse,false⟩ 1=(⟨[],room,fuse,false⟩,[],1,0):=by
 unfold recM
 rw [if_neg (by decide)]
 show recF (999999+1) _ _ _ _ _=_
 unfold recF
 rw [if_neg (by decide),if_pos (by rw [redd_none (by simp)];decide)]
end
section
open Dkm
namespace Rn
def Dry (l:List Fil):Prop:=∀ f∈l,f.wt=⟨#[]⟩
theorem uniq_pw (l:List Fil):Uniq l↔l.Pairwise fun a b=>a.nm≠b.nm:=by
 rw [List.pairwise_iff_getElem]
 constructor
 · intro h i j hi hj hij e
   have:=h i j hi hj e;omega
 · intro h i j hi hj e
   rcases Nat.lt_trichotomy i j with hlt | he | hlt
   · exact absurd e (h i j hi hj hlt)
   · exact he
   · exact absurd e.symm (h j i hj hi hlt)
theorem uniq_erase {l:List Fil} (h:Uniq l) (k:Nat):Uniq (l.eraseIdx k):=(uniq_pw _).2 (((uniq_pw _).1 h).sublist (List.eraseIdx_sublist l k))
theorem erase_gone {l:List Fil} (hu:Uniq l) {k:Nat} (hk:k<l.length) {nm:ByteArray} (hn:l[k].nm=nm):∀ f∈l.eraseIdx k,f.nm≠nm:=by
 intro f hf e
 obtain ⟨i,hi,hne,rfl⟩:=List.mem_eraseIdx_iff_getElem.1 hf
 exact hne (hu i k hi hk (e.trans hn.symm))
theorem uniq_snoc {l:List Fil} (hu:Uniq l) {f:Fil} (hf:∀ g∈l,g.nm≠f.nm):Uniq (l++[f]):=by
 rw [uniq_pw,List.pairwise_append]
 exact ⟨(uniq_pw _).1 hu,by simp,fun a ha b hb=>by simp at hb;subst hb;exact hf a ha⟩
theorem hit_some {nm:ByteArray} {l:List Fil} (h:(hit nm l).2=true):∃ k,∃ hk:k<l.length,l[k].nm=nm∧(∀ j,∀ h:j<l.length,j<k→l[j].nm≠nm)∧hit nm l=(l[k],true)∧(opn nm l).2=k:=by
 rcases plc_cases nm l with ⟨_,hall⟩ | ⟨k,hk,_,hkn,hf⟩
 · rw [hit_none hall] at h;cases h
 · exact ⟨k,hk,hkn,hf,hit_at hk hkn hf,by rw [opn_at hk hkn hf]⟩
theorem hit_no {nm:ByteArray} {l:List Fil} (h:(hit nm l).2=false):∀ f∈l,f.nm≠nm:=by
 rcases plc_cases nm l with ⟨_,hall⟩ | ⟨k,hk,_,hkn,hf⟩
 · exact hall
 · rw [hit_at hk hkn hf] at h;cases h
theorem del_ok {d:Dk} {nm:ByteArray} (h:(del d nm).2=0):∃ k,∃ hk:k<d.fs.length,d.fs[k].nm=nm∧(del d nm).1.fs=d.fs.eraseIdx k:=by
 unfold del at h ⊢
 split at h
 · simp at h
 · rename_i h1
   split at h
   · simp at h
   · rename_i h2
     split at h
     · simp at h
     · rename_i h3
       rw [if_neg h1,if_neg h2,if_neg h3]
       obtain ⟨k,hk,hkn,_,_,ho⟩:=hit_some (nm:=nm) (l:=d.fs) (by simpa using h2)
       refine ⟨k,hk,hkn,?_⟩
       unfold lss
       simp only [ho,pow_fs]
theorem appd_ok {d:Dk} {nm s:ByteArray} (hall:∀ f∈d.fs,f.nm≠nm) (h:(appd d nm s).2=0):(appd d nm s).1.fs=d.fs++[⟨nm,⟨#[]⟩,s⟩]:=by
 unfold appd at h ⊢
 rw [opn_none hall] at h ⊢
 split at h
 · simp at h
 · rename_i h1
   split at h
   · simp at h
   · rename_i h2
     split at h
     · simp at h
     · rename_i h3
       split at h
       · simp at h
       · rename_i h4
         rw [if_neg h1,if_neg h2,if_neg h3,if_neg h4]
         simp only at h ⊢
         have hs:short d.fuse s=false:=by
          cases hh:short d.fuse s with
          | false=>rfl
          | true=>rw [hh] at h;simp at h
         have hc:cut d.fuse s=s:=by unfold cut;rw [hs];rfl
         rw [hc]
         unfold put
         rw [if_pos rfl]
         have e:(⟨#[]⟩:ByteArray)++s=s:=ByteArray.empty_append
         rw [e]
theorem syn_ok {d:Dk} {nm s:ByteArray} {l:List Fil} (hfs:d.fs=l++[⟨nm,⟨#[]⟩,s⟩]) (hall:∀ f∈l,f.nm≠nm) (h:(syn d nm).2=0):(syn d nm).1.fs=l++[⟨nm,s,⟨#[]⟩⟩]:=by
 obtain ⟨fs,room,fuse,off⟩:=d
 simp only at hfs
 subst hfs
 cases off with
 | true=>simp [syn] at h
 | false =>
   have hk:l.length<(l++[(⟨nm,⟨#[]⟩,s⟩:Fil)]).length:=by simp
   have hg:(l++[(⟨nm,⟨#[]⟩,s⟩:Fil)])[l.length]=⟨nm,⟨#[]⟩,s⟩:=by simp
   rw [syn_at hk (by rw [hg]) (fun j hj hjl=>by rw [List.getElem_append_left hjl];exact hall _ (List.getElem_mem hjl))]
   rw [hg]
   have e:(⟨#[]⟩:ByteArray)++s=s:=ByteArray.empty_append
   simp [e]
theorem fresh_ne (nm:ByteArray):nm≠freshB nm:=by
 intro e
 have:=congrArg ByteArray.size e
 unfold freshB at this
 rw [ByteArray.size_append] at this
 have h2:(⟨#[110,46]⟩:ByteArray).size=2:=rfl
 omega
theorem hit_crs (d:Dk) (ks:List Int) (nm:ByteArray) (h:Dry d.fs∨(hit nm d.fs).1.wt=⟨#[]⟩):(hit nm (crs d ks).fs).2=(hit nm d.fs).2∧(hit nm (crs d ks).fs).1.sf=(hit nm d.fs).1.sf:=by
 have e:(crs d ks).fs=d.fs.mapIdx (crf ks):=by
  show crl ks d.fs d.fs.length=_
  unfold crl;rw [List.take_length,List.drop_length,List.append_nil]
 rw [e]
 rcases plc_cases nm d.fs with ⟨_,hall⟩ | ⟨k,hk,_,hkn,hf⟩
 · rw [hit_none hall,hit_none]
   · exact ⟨rfl,rfl⟩
   · intro f hfm
     obtain ⟨i,hi,rfl⟩:=List.getElem_of_mem hfm
     rw [List.getElem_mapIdx]
     exact hall (d.fs[i]'(by simpa using hi)) (List.getElem_mem _)
 · have hk':k<(d.fs.mapIdx (crf ks)).length:=by simpa using hk
   have hw:d.fs[k].wt=⟨#[]⟩:=by
    rcases h with h | h
    · exact h _ (List.getElem_mem hk)
    · rw [hit_at hk hkn hf] at h;exact h
   rw [hit_at hk hkn hf,hit_at hk' (by rw [List.getElem_mapIdx];exact hkn) (fun j hj hjk=>by rw [List.getElem_mapIdx];exact hf j (by simpa using hj) hjk),List.getElem_mapIdx]
   refine ⟨rfl,?_⟩
   show d.fs[k].sf++d.fs[k].wt.extract 0 _=d.fs[k].sf
   rw [hw]
   have e1:(⟨#[]⟩:ByteArray).extract 0 (kp ks k d.fs[k])=⟨#[]⟩:=by ext1;simp
   rw [e1]
   exact ByteArray.append_empty
theorem lay_apart {d:Dk} {nm s:ByteArray} (h:(lay d nm s).2≠0):hit nm (lay d nm s).1.fs=hit nm d.fs:=by
 have hne:=fresh_ne nm
 have a1:hit nm (lay1 d nm).1.fs=hit nm d.fs:=by unfold lay1;split;exact del_apart d hne;rfl
 have a2:hit nm (lay2 d nm s).1.fs=hit nm d.fs:=by unfold lay2;split;exact (appd_apart _ hne).trans a1;exact a1
 have a3:hit nm (lay3 d nm s).1.fs=hit nm d.fs:=by unfold lay3;split;exact (syn_apart _ hne).trans a2;exact a2
 unfold lay at h ⊢
 split at h
 · rename_i h0
   rw [if_pos h0,(ren_bad _ _ _ h).1]
   exact a3
 · rename_i h0
   rw [if_neg h0]
   exact a3
theorem crs_uniq (d:Dk) (ks:List Int) (hu:Uniq d.fs):Uniq (crs d ks).fs:=by
 have e:(crs d ks).fs=d.fs.mapIdx (crf ks):=by
  show crl ks d.fs d.fs.length=_
  unfold crl;rw [List.take_length,List.drop_length,List.append_nil]
 rw [e]
 intro i j hi hj he
 rw [List.getElem_mapIdx,List.getElem_mapIdx] at he
 exact hu i j (by simpa using hi) (by simpa using hj) he
end Rn
end
section
open Dkm
namespace Rn
theorem hit_uniq {l:List Fil} {nm:ByteArray} {i:Nat} (hi:i<l.length) (hn:l[i].nm=nm) (hu:∀ j,∀ hj:j<l.length,l[j].nm=nm→j=i):hit nm l=(l[i],true):=
  hit_at hi hn (fun j hj hji e=>by have:=hu j hj e;omega)
theorem ren_hit {d:Dk} {fr tu:ByteArray} (hu:Uniq d.fs) (he:fr≠tu) (h:(ren d fr tu).2=0):hit tu (ren d fr tu).1.fs=(⟨tu,(hit fr d.fs).1.sf,(hit fr d.fs).1.wt⟩,true):=by
 obtain ⟨l,room,fuse,off⟩:=d
 have hv:Uniq l:=hu
 cases off
 case true=>simp [ren] at h
 cases hok:nmOk tu
 · simp [ren,hok] at h
 rcases plc_cases fr l with ⟨hp,hall⟩ | ⟨k,hk,hp,hkn,hfirst⟩
 · simp [ren,hok,hit_none hall] at h
 by_cases hz:fuse=0
 · subst hz
   simp [ren,hok,hit_at hk hkn hfirst,he,pow_zero] at h
 obtain ⟨f2,hpw⟩:∃ f2,pow ⟨l,room,fuse,false⟩=(⟨l,room,f2,false⟩,true):=by
  rcases Int.lt_or_gt_of_ne hz with h | h
  · exact ⟨fuse,pow_neg _ _ _ _ h⟩
  · exact ⟨fuse - 1,pow_pos _ _ _ _ h⟩
 have hg:∀ (j:Nat) (hj:j<(l.set k ⟨tu,l[k].sf,l[k].wt⟩).length),(l.set k ⟨tu,l[k].sf,l[k].wt⟩)[j]=if k=j then ⟨tu,l[k].sf,l[k].wt⟩ else l[j]'(by simpa using hj):=fun j hj=>List.getElem_set ..
 have hrd:hit fr l=(l[k],true):=hit_at hk hkn hfirst
 show hit tu _=(⟨tu,(hit fr l).1.sf,(hit fr l).1.wt⟩,true)
 rw [hrd]
 rcases plc_cases tu l with ⟨hp2,hall2⟩ | ⟨o,ho,hp2,hon,hfirst2⟩
 · rw [show ren ⟨l,room,fuse,false⟩ fr tu=(nmd ⟨l,room,f2,false⟩ k tu,0) by simp [ren,hok,hit_at hk hkn hfirst,opn_at hk hkn hfirst,he,hpw,hit_none hall2],nmd_at hk]
   have hk2:k<(l.set k ⟨tu,l[k].sf,l[k].wt⟩).length:=by simpa using hk
   show hit tu (l.set k _)=_
   rw [hit_uniq hk2 (by rw [hg,if_pos rfl]) (fun j hj e=>by
    rw [hg] at e
    split at e
    · omega
    · exact absurd e (hall2 _ (List.getElem_mem _)))]
   rw [hg,if_pos rfl]
 · have hne:o≠k:=by rintro rfl;exact he (hkn.symm.trans hon)
   have ho2:o<(l.set k ⟨tu,l[k].sf,l[k].wt⟩).length:=by simpa using ho
   rw [show ren ⟨l,room,fuse,false⟩ fr tu=(lss (nmd ⟨l,room,f2,false⟩ k tu) o,0) by simp [ren,hok,hit_at hk hkn hfirst,opn_at hk hkn hfirst,he,hpw,hit_at ho hon hfirst2,opn_at ho hon hfirst2],nmd_at hk,lss_at ho2]
   have hel:∀ (j:Nat) (hj:j<((l.set k ⟨tu,l[k].sf,l[k].wt⟩).eraseIdx o).length),((l.set k ⟨tu,l[k].sf,l[k].wt⟩).eraseIdx o)[j]=if h:j<o then (l.set k ⟨tu,l[k].sf,l[k].wt⟩)[j]'(by omega) else (l.set k ⟨tu,l[k].sf,l[k].wt⟩)[j+1]'(by rw [List.length_eraseIdx,if_pos ho2] at hj;omega):=fun j hj=>List.getElem_eraseIdx ..
   have hlen:((l.set k ⟨tu,l[k].sf,l[k].wt⟩).eraseIdx o).length=l.length - 1:=by rw [List.length_eraseIdx,if_pos ho2,List.length_set]
   show hit tu ((l.set k _).eraseIdx o)=_
   obtain ⟨i,hi,hval⟩:∃ i,∃ hi:i<((l.set k ⟨tu,l[k].sf,l[k].wt⟩).eraseIdx o).length,((l.set k ⟨tu,l[k].sf,l[k].wt⟩).eraseIdx o)[i]=⟨tu,l[k].sf,l[k].wt⟩∧(if i<o then i else i+1)=k:=by
    by_cases hko:k<o
    · refine ⟨k,by omega,?_,by rw [if_pos hko]⟩
      rw [hel,dif_pos hko,hg,if_pos rfl]
    · refine ⟨k - 1,by omega,?_,by rw [if_neg (by omega)];omega⟩
      rw [hel,dif_neg (by omega),hg,if_pos (by omega)]
   rw [hit_uniq hi (by rw [hval.1]) (fun j hj e=>by
    rw [hel] at e
    split at e
    · rename_i hjo
      rw [hg] at e
      split at e
      · have:=hval.2;split at this<;>omega
      · have:=hv j o (by omega) ho (e.trans hon.symm);omega
    · rename_i hjo
      rw [hg] at e
      split at e
      · have:=hval.2;split at this<;>omega
      · have:=hv (j+1) o (by omega) ho (e.trans hon.symm);omega),hval.1]
theorem appd_fits {d:Dk} {nm s:ByteArray} (hall:∀ f∈d.fs,f.nm≠nm) (h:(appd d nm s).2=0):s.size≤65536:=by
 unfold appd at h
 rw [opn_none hall] at h
 split at h
 · simp at h
 split at h
 · simp at h
 split at h
 · simp at h
 split at h
 · simp at h
 · rename_i h4
   have e:(⟨#[]⟩:ByteArray).size=0:=rfl
   simp only [e] at h4
   omega
theorem lay1_u {d:Dk} {nm:ByteArray} (hu:Uniq d.fs) (h:(lay1 d nm).2=0):Uniq (lay1 d nm).1.fs∧∀ f∈(lay1 d nm).1.fs,f.nm≠freshB nm:=by
 unfold lay1 at h ⊢
 split at h
 · rename_i hh
   rw [if_pos hh]
   obtain ⟨k,hk,hkn,he⟩:=del_ok h
   rw [he]
   exact ⟨uniq_erase hu k,erase_gone hu hk hkn⟩
 · rename_i hh
   rw [if_neg hh]
   exact ⟨hu,hit_no (by simpa using hh)⟩
theorem lay3_u {d:Dk} {nm s:ByteArray} (hu:Uniq d.fs) (h:(lay3 d nm s).2=0):∃ l,(lay3 d nm s).1.fs=l++[⟨freshB nm,s,⟨#[]⟩⟩]∧Uniq (lay3 d nm s).1.fs∧(∀ f∈l,f.nm≠freshB nm)∧s.size≤65536:=by
 have h2:(lay2 d nm s).2=0:=by
  unfold lay3 at h
  split at h
  · assumption
  · exact h
 have h1:(lay1 d nm).2=0:=by
  unfold lay2 at h2
  split at h2
  · assumption
  · exact h2
 obtain ⟨u1,g1⟩:=lay1_u hu h1
 have e2:lay2 d nm s=appd (lay1 d nm).1 (freshB nm) s:=by unfold lay2;rw [if_pos h1]
 have e3:lay3 d nm s=syn (lay2 d nm s).1 (freshB nm):=by unfold lay3;rw [if_pos h2]
 rw [e2] at h2
 have f2:=appd_ok g1 h2
 rw [e3] at h ⊢
 have f3:=syn_ok (by rw [e2];exact f2) g1 h
 exact ⟨(lay1 d nm).1.fs,f3,by rw [f3];exact uniq_snoc u1 g1,g1,appd_fits g1 h2⟩
theorem lay_hit {d:Dk} {nm s:ByteArray} (hu:Uniq d.fs) (h:(lay d nm s).2=0):hit nm (lay d nm s).1.fs=(⟨nm,s,⟨#[]⟩⟩,true)∧s.size≤65536:=by
 have h3:(lay3 d nm s).2=0:=by
  unfold lay at h
  split at h
  · assumption
  · exact h
 have e4:lay d nm s=ren (lay3 d nm s).1 (freshB nm) nm:=by unfold lay;rw [if_pos h3]
 obtain ⟨l,f3,u3,g3,hs⟩:=lay3_u hu h3
 rw [e4] at h ⊢
 refine ⟨?_,hs⟩
 rw [ren_hit u3 (fresh_ne nm).symm h]
 have hk:l.length<(l++[(⟨freshB nm,s,⟨#[]⟩⟩:Fil)]).length:=by simp
 have hg:(l++[(⟨freshB nm,s,⟨#[]⟩⟩:Fil)])[l.length]=⟨freshB nm,s,⟨#[]⟩⟩:=by simp
 rw [f3,hit_at hk (by rw [hg]) (fun j hj hjl=>by rw [List.getElem_append_left hjl];exact g3 _ (List.getElem_mem hjl)),hg]
theorem lay_others {d:Dk} {o nm s:ByteArray} (h1:o≠nm) (h2:o≠freshB nm):hit o (lay d nm s).1.fs=hit o d.fs:=by
 have a1:hit o (lay1 d nm).1.fs=hit o d.fs:=by unfold lay1;split;exact del_apart d h2;rfl
 have a2:hit o (lay2 d nm s).1.fs=hit o d.fs:=by unfold lay2;split;exact (appd_apart _ h2).trans a1;exact a1
 have a3:hit o (lay3 d nm s).1.fs=hit o d.fs:=by unfold lay3;split;exact (syn_apart _ h2).trans a2;exact a2
 unfold lay
 split
 · exact (ren_apart _ h2 h1).trans a3
 · exact a3
end Rn
end
section
open Dkm Prm Wm Du Wl
namespace Wl
theorem St.keep {fs fs':List Fil} {rs:List (List Rec)} {r:List Rec} {t:List UInt8} {m:Nat} (h:St fs rs r t m) (hu:Uniq fs') (ha:∀ k,segOk k→hit (namB k) fs'=hit (namB k) fs):St fs' rs r t m where
  uniq:=hu
  top:=h.top
  full i hi:=by
   have hs:segOk ((i:Int)+1):=by have:=h.top;unfold segOk;omega
   unfold Full
   rw [ha _ hs]
   exact h.full i hi
  none k hk hs:=by rw [ha k hs];exact h.none k hk hs
  les:=h.les
  le:=h.le
  part:=h.part
  mle:=h.mle
  size:=h.size
  last:=by rw [ha _ h.ok];exact h.last
  text:=by rw [ha _ h.ok];exact h.text
  safe:=by rw [ha _ h.ok];exact h.safe
theorem In.keep {w:Lw} (h:In w) (d':Dk) (hu:Uniq d'.fs) (ha:∀ k,segOk k→hit (namB k) d'.fs=hit (namB k) w.d.fs):In { w with d:=d' }:=by
 obtain ⟨rs,r,t,m,h1,h2,h3,h4,h5⟩:=h
 exact ⟨rs,r,t,m,h1.keep hu ha,h2,h3,h4,h5⟩
theorem In.above {w:Lw} (h:In w) (hs:segOk (w.seg+1)):(hit (namB (w.seg+1)) w.d.fs).2=false:=by
 obtain ⟨rs,r,t,m,h1,h2,h3,h4,h5⟩:=h
 exact h1.none _ (by omega) hs
end Wl
namespace Km
def hd (b:ByteArray):Option UInt8:=b.data.toList.head?
theorem hd_nam (k:Int):hd (namB k)=some 119∨hd (namB k)=none:=by
 by_cases h:segOk k
 · left
   show (nam k).head? = _
   rw [nam_ok h];rfl
 · right
   rw [namB_no h];rfl
theorem hd_fresh (b:ByteArray):hd (Rn.freshB b)=some 110:=by
 unfold hd Rn.freshB
 rw [ByteArray.data_append,Array.toList_append];rfl
theorem hd_m:hd mB=some 109:=rfl
theorem hd_run {n:Int} (h:runOk n):hd (rnamB n)=some 114:=by rw [rnamB_ok h];rfl
theorem hd_run0:hd (rnamB 0)=none:=by rw [rnamB_no (by unfold runOk;omega)];rfl
theorem hd_ne {a b:ByteArray} (h:hd a≠hd b):a≠b:=fun e=>h (by rw [e])
theorem nam_not {b:ByteArray} {c:UInt8} (h:hd b=some c) (hc:c≠119) (k:Int):b≠namB k:=by
 rcases hd_nam k with e | e
 · exact hd_ne (by rw [h,e];simpa using hc)
 · exact hd_ne (by rw [h,e];simp)
theorem nam_hd {k:Int} (h:segOk k):hd (namB k)=some 119:=by
 show (nam k).head? = _
 rw [nam_ok h];rfl
theorem drp_others {o:ByteArray} (ho:∀ k,o≠namB k):∀ (n:Nat) (d:Dk) (s til:Int),hit o (drpF n d s til).1.fs=hit o d.fs
  | 0,d,s,til=>rfl
  | n + 1,d,s,til=>by
    unfold drpF
    split
    · split
      · split
        · exact del_apart d (ho s)
        · exact (drp_others ho n _ _ _).trans (del_apart d (ho s))
      · exact drp_others ho n _ _ _
    · rfl
theorem swp_others {o:ByteArray} {d:Dk} {run frm til:Int} (h1:o≠rnamB run) (ho:∀ k,o≠namB k):hit o (swpM d run frm til).1.fs=hit o d.fs:=by
 unfold swpM swpB
 have e:hit o (if (hit (rnamB run) d.fs).2=true then del d (rnamB run) else (d,(0:Int))).1.fs=hit o d.fs:=by
  split
  · exact del_apart d h1
  · rfl
 generalize (if (hit (rnamB run) d.fs).2=true then del d (rnamB run) else (d,(0:Int)))=x at e ⊢
 split
 · exact e
 · exact (drp_others ho _ _ _ _).trans e
theorem swp_keep {o:ByteArray} {d:Dk} {run frm til:Int} (h:(hit o d.fs).2=false):(hit o (swpM d run frm til).1.fs).2=false:=by
 unfold swpM swpB
 have e:(hit o (if (hit (rnamB run) d.fs).2=true then del d (rnamB run) else (d,(0:Int))).1.fs).2=false:=by
  split
  · exact del_keep h
  · exact h
 generalize (if (hit (rnamB run) d.fs).2=true then del d (rnamB run) else (d,(0:Int)))=x at e ⊢
 split
 · exact e
 · exact drp_keep _ _ _ _ e
theorem opn_old {w:Lw} (h:In w) (hsafe:w.safe=w.put.length) (hdead:w.dead=false) {s:Bm.Sta} (hrep:repM ⟨[],[]⟩ w.put=some s) (hm:(hit mB w.d.fs).2=false) (ks:List Int) :
    (openM (crs w.d ks)).2=0∧(openM (crs w.d ks)).1.s=s:=by
  obtain ⟨seg,e,_⟩:=crash_safe h hsafe hdead ks
  have hm2:(hit mB (crs w.d ks).fs).2=false:=by
   rcases hit_crs w.d ks mB with ⟨_,e⟩ | ⟨e,_⟩
   · exact e
   · rw [hm] at e;cases e
  have hb:begM (crs w.d ks).fs=(1,0,0):=by
   unfold begM redd
   rw [hm2];rfl
  have ho:openM (crs w.d ks)=(⟨crs w.d ks,1,seg,0,s,false⟩,0):=by
   unfold openM opnA
   rw [hb]
   simp only [ne_eq,not_true_eq_false,if_false]
   unfold opnB loadS
   simp only [if_true,ne_eq,not_true_eq_false,if_false]
   unfold opnC
   rw [e]
   simp only [ne_eq,not_true_eq_false,if_false]
   rw [hrep];rfl
  rw [ho]
  exact ⟨rfl,rfl⟩
theorem hit_whole {d:Dk} {nm s:ByteArray} (h:hit nm d.fs=(⟨nm,s,⟨#[]⟩⟩,true)) (ks:List Int):redd nm (crs d ks).fs=(s,0):=by
 rcases hit_crs d ks nm with ⟨e,_⟩ | ⟨_,k,e⟩
 · rw [h] at e;cases e
 · rw [h] at e
   unfold redd
   rw [e]
   have e1:(⟨#[]⟩:ByteArray).extract 0 k=⟨#[]⟩:=by ext1;simp
   have e2:∀ x:ByteArray,x++(⟨#[]⟩:ByteArray)=x:=fun x=>ByteArray.append_empty
   simp only [e1,e2,if_true]
theorem rn_body (l:List Pr):(Rn.body l).length≤(Rn.bytes l).length:=by
 unfold Rn.bytes sld
 simp only [List.length_append];omega
theorem opn_new {d:Dk} {f r:Int} (hf:1≤f∧f≤1000000) (hr:runOk r) {s:Bm.Sta} (hm:hit mB d.fs=(⟨mB,manB f r,⟨#[]⟩⟩,true))
    (hrn:hit (rnamB r) d.fs=(⟨rnamB r,⟨(Rn.bytes (Bm.pairs s)).toArray⟩,⟨#[]⟩⟩,true)) (hmay:Rn.may (Bm.pairs s)=true) (hsz:(Rn.bytes (Bm.pairs s)).length≤65536)
    (hcg:Bm.cgs s.toks) (hno:(hit (namB f) d.fs).2=false) (ks:List Int):(openM (crs d ks)).2=0∧(openM (crs d ks)).1.s=s:=by
  have hb:=rn_body (Bm.pairs s)
  have hmx:(65536:Nat)≤Dm.maxU:=by decide
  have e1:begM (crs d ks).fs=(f,r,0):=by
   unfold begM
   rw [hit_whole hm ks]
   simp only [ne_eq,not_true_eq_false,if_false]
   exact tman_man f r hf.1 hf.2 (by have:=hr.1;omega) hr.2
  have hl:Rn.loadM (rnamB r) (crs d ks).fs=(Bm.pairs s,0):=by
   unfold Rn.loadM
   rw [hit_whole hrn ks]
   simp only [ne_eq,not_true_eq_false,if_false]
   exact Rn.take_bytes _ _ hmay (by omega) (by omega)
  have e2:loadS (crs d ks).fs r=(s,0):=by
   unfold loadS
   rw [if_neg (by have:=hr.1;omega),hl,Bm.back_pairs hcg]
   simp
  have e3:recM (crs d ks) f=(crs d ks,[],f,0):=by
   have hn:(hit (namB f) (crs d ks).fs).2=false:=by
    rcases hit_crs d ks (namB f) with ⟨_,e⟩ | ⟨e,_⟩
    · exact e
    · rw [hno] at e;cases e
   have hrd:(redd (namB f) (crs d ks).fs).2=7:=by unfold redd;rw [hn];rfl
   have hs:segOk f:=hf
   unfold recM
   rw [if_neg (by simpa using hs)]
   obtain ⟨n,hn⟩:∃ n,fuelOf f=n+1:=⟨fuelOf f - 1,by unfold fuelOf;omega⟩
   rw [hn]
   unfold recF
   rw [if_neg (by simpa using hs),if_pos (by rw [hrd];decide)]
  unfold openM opnA
  rw [e1]
  simp only [ne_eq,not_true_eq_false,if_false]
  unfold opnB
  rw [e2]
  simp only [ne_eq,not_true_eq_false,if_false]
  unfold opnC
  rw [e3]
  simp only [ne_eq,not_true_eq_false,if_false]
  rw [repM_nil]
  exact ⟨rfl,rfl⟩
theorem chk_crash {N:Nat} {x:Ks} (h:Kn N x) (hi:Ki x) (hcg:Bm.cgs x.s.toks) (fuse:Int) (ks:List Int) :
    (crsM (chkM (armM x fuse)).1 ks).2=0∧(crsM (chkM (armM x fuse)).1 ks).1.s=x.s:=by
  obtain ⟨⟨w,hI,hd,hseg,hdead,hsafe,hrep,hput⟩,hon,hno,hfrm,hrun,hup⟩:=h
  have hnd:=hi.nd
  obtain ⟨d,frm,seg,run,s,down⟩:=x
  simp only at hd hseg hrep hno hfrm hrun hup hcg hnd
  subst hfrm hrun hup
  obtain ⟨wd,wseg,put,safe,dead⟩:=w
  simp only at hd hseg hrep hsafe hdead
  subst hd hseg
  unfold armM crsM
  simp only
  have hA:∀ d':Dk,Uniq d'.fs→(∀ k,segOk k→hit (namB k) d'.fs=hit (namB k) wd.fs)→hit mB d'.fs=hit mB wd.fs→(openM (crs d' ks)).2=0∧(openM (crs d' ks)).1.s=s:=fun d' hu ha hm =>
   opn_old (hI.keep d' hu ha) hsafe hdead hrep (by show (hit mB d'.fs).2=false;rw [hm];exact hno) ks
  have hS:=fun hs:segOk (wseg+1)=>hI.above hs
  have hok:segOk wseg:=In.segOk hI
  simp only at hS
  generalize hy:(⟨wd.fs,wd.room,max fuse (-1),wd.off⟩:Dk)=y
  have hyf:y.fs=wd.fs:=by rw [←hy]
  have hB:(openM (crs y ks)).2=0∧(openM (crs y ks)).1.s=s:=hA y (by rw [hyf];exact hnd.uniq) (fun k _=>by rw [hyf]) (by rw [hyf])
  unfold chkM
  simp only [Bool.false_eq_true,if_false]
  split
  · exact hB
  rename_i c2
  split
  · exact hB
  rename_i c3
  have hmay:Rn.may (Bm.pairs s)=true:=by
   cases hm:Rn.may (Bm.pairs s) with
   | true=>rfl
   | false=>unfold rbM at c3;rw [hm] at c3;simp at c3
  have hrb:rbM (Bm.pairs s)=(Rn.bytes (Bm.pairs s),0):=by unfold rbM;rw [if_pos hmay]
  rw [hrb]
  have r1:runOk (0+1):=by unfold runOk;omega
  have hr1:=hd_run r1
  have hnr:∀ k,segOk k→namB k≠rnamB (0+1):=fun k hk=>hd_ne (by rw [nam_hd hk,hr1];decide)
  have hnf:∀ (b:ByteArray) k,segOk k→namB k≠Rn.freshB b:=fun b k hk=>hd_ne (by rw [nam_hd hk,hd_fresh];decide)
  have hnm:∀ k,segOk k→namB k≠mB:=fun k hk=>hd_ne (by rw [nam_hd hk,hd_m];decide)
  have hmr:mB≠rnamB (0+1):=hd_ne (by rw [hd_m,hr1];decide)
  have hmf:∀ b,mB≠Rn.freshB b:=fun b=>hd_ne (by rw [hd_m,hd_fresh];decide)
  have hrf:∀ b,rnamB (0+1)≠Rn.freshB b:=fun b=>hd_ne (by rw [hr1,hd_fresh];decide)
  have hndy:Nd y.fs:=by rw [hyf];exact hnd
  have p1:=nd_lay hndy (rnamB (0+1)) ⟨(Rn.bytes (Bm.pairs s)).toArray⟩
  have p2:∀ k,segOk k→hit (namB k) (Rn.lay y (rnamB (0+1)) ⟨(Rn.bytes (Bm.pairs s)).toArray⟩).1.fs=hit (namB k) wd.fs:=fun k hk=>by rw [Rn.lay_others (hnr k hk) (hnf _ k hk),hyf]
  have p3:hit mB (Rn.lay y (rnamB (0+1)) ⟨(Rn.bytes (Bm.pairs s)).toArray⟩).1.fs=hit mB wd.fs:=by rw [Rn.lay_others hmr (hmf _),hyf]
  have p4:=Rn.lay_hit (d:=y) (nm:=rnamB (0+1)) (s:=⟨(Rn.bytes (Bm.pairs s)).toArray⟩) hndy.uniq
  simp only
  generalize Rn.lay y (rnamB (0+1)) ⟨(Rn.bytes (Bm.pairs s)).toArray⟩=p at p1 p2 p3 p4 ⊢
  unfold chkA
  split
  · exact hA p.1 p1.uniq p2 p3
  rename_i c4
  obtain ⟨p5,p6⟩:=p4 (by simpa using c4)
  simp only
  have q1:=nd_lay p1 mB (manB (wseg+1) (0+1))
  have q2:∀ k,segOk k→hit (namB k) (Rn.lay p.1 mB (manB (wseg+1) (0+1))).1.fs=hit (namB k) wd.fs:=fun k hk=>by rw [Rn.lay_others (hnm k hk) (hnf _ k hk),p2 k hk]
  have q3:hit (rnamB (0+1)) (Rn.lay p.1 mB (manB (wseg+1) (0+1))).1.fs=hit (rnamB (0+1)) p.1.fs:=Rn.lay_others hmr.symm (hrf _)
  have q4:=Rn.lay_hit (d:=p.1) (nm:=mB) (s:=manB (wseg+1) (0+1)) p1.uniq
  have q5:=Rn.lay_apart (d:=p.1) (nm:=mB) (s:=manB (wseg+1) (0+1))
  generalize Rn.lay p.1 mB (manB (wseg+1) (0+1))=q at q1 q2 q3 q4 q5 ⊢
  unfold chkB
  split
  · rename_i c5
    exact hA q.1 q1.uniq q2 ((q5 c5).trans p3)
  rename_i c5
  obtain ⟨q6,_⟩:=q4 (by simpa using c5)
  simp only
  have hs1:segOk (wseg+1):=by have:=hok.1;unfold segOk;omega
  have z1:hit mB (swpM q.1 0 1 (wseg+1)).1.fs=hit mB q.1.fs:=swp_others (hd_ne (by rw [hd_m,hd_run0];decide)) (nam_not hd_m (by decide))
  have z2:hit (rnamB (0+1)) (swpM q.1 0 1 (wseg+1)).1.fs=hit (rnamB (0+1)) q.1.fs:=swp_others (hd_ne (by rw [hr1,hd_run0];decide)) (nam_not hr1 (by decide))
  have z3:(hit (namB (wseg+1)) (swpM q.1 0 1 (wseg+1)).1.fs).2=false:=swp_keep (by rw [q2 _ hs1];exact hS hs1)
  generalize swpM q.1 0 1 (wseg+1)=z at z1 z2 z3 ⊢
  have hend:(openM (crs z.1 ks)).2=0∧(openM (crs z.1 ks)).1.s=s:=
    opn_new hs1 r1 (by rw [z1,q6]) (by rw [z2,q3,p5]) hmay p6 hcg z3 ks
  unfold chkC
  split
  · exact hend
  · exact hend
end Km
end
section
open Dkm Wm Du Wl
namespace Wb
structure St (b:Int) (fs:List Fil) (rs:List (List Rec)) (r:List Rec) (t:List UInt8) (m:Nat):Prop where
  uniq:Uniq fs
  pos:1≤b
  top:(rs.length:Int)+b≤1000000
  full:∀ i (h:i<rs.length),Full fs ((i:Int)+b) rs[i]
  none:∀ k:Int,(rs.length:Int)+b<k→segOk k→(hit (namB k) fs).2=false
  les:∀ x∈rs,Le x
  le:Le r
  part:Part t
  mle:m≤r.length
  size:(flat r++t).length≤8192
  last:((hit (namB ((rs.length:Int)+b)) fs).2=false∧r=[]∧t=[])∨((hit (namB ((rs.length:Int)+b)) fs).2=true)
  text:(hit (namB ((rs.length:Int)+b)) fs).1.sf.data.toList++(hit (namB ((rs.length:Int)+b)) fs).1.wt.data.toList=flat r++t
  safe:flat (r.take m) <+: (hit (namB ((rs.length:Int)+b)) fs).1.sf.data.toList
theorem St.ok {b:Int} {fs:List Fil} {rs:List (List Rec)} {r:List Rec} {t:List UInt8} {m:Nat} (h:St b fs rs r t m):segOk ((rs.length:Int)+b):=by have:=h.top;have:=h.pos;unfold segOk;omega
theorem St.turn {b:Int} {fs fs':List Fil} {rs:List (List Rec)} {r r':List Rec} {t t':List UInt8} {m m':Nat} (h:St b fs rs r t m) (hu:Uniq fs')
    (ha:∀ k,segOk k→k≠(rs.length:Int)+b→hit (namB k) fs'=hit (namB k) fs) (hle:Le r') (hp:Part t') (hm:m'≤r'.length) (hs:(flat r'++t').length≤8192)
    (hit1:(hit (namB ((rs.length:Int)+b)) fs').2=true) (htx:(hit (namB ((rs.length:Int)+b)) fs').1.sf.data.toList++(hit (namB ((rs.length:Int)+b)) fs').1.wt.data.toList=flat r'++t')
    (hsf:flat (r'.take m') <+: (hit (namB ((rs.length:Int)+b)) fs').1.sf.data.toList):St b fs' rs r' t' m' where
  uniq:=hu
  pos:=h.pos
  top:=h.top
  full i hi:=by
   have h1:=h.full i hi
   have e:=ha ((i:Int)+b) (by have:=h.top;have:=h.pos;unfold segOk;omega) (by omega)
   unfold Full at h1 ⊢
   rw [e];exact h1
  none k hk hs:=by rw [ha k hs (by omega)];exact h.none k hk hs
  les:=h.les
  le:=hle
  part:=hp
  mle:=hm
  size:=hs
  last:=.inr hit1
  text:=htx
  safe:=hsf
theorem St.next {b:Int} {fs:List Fil} {rs:List (List Rec)} {r:List Rec} {m:Nat} (h:St b fs rs r [] m) (htop:(rs.length:Int)+b+1≤1000000) (h1:(hit (namB ((rs.length:Int)+b)) fs).2=true) (hw:(hit (namB ((rs.length:Int)+b)) fs).1.wt=⟨#[]⟩):St b fs (rs++[r]) [] [] 0:=by
 have hl:((rs++[r]).length:Int)+b=(rs.length:Int)+b+1:=by simp;omega
 have hn:(hit (namB ((rs.length:Int)+b+1)) fs).2=false:=h.none _ (by omega) (by have:=h.pos;unfold segOk;omega)
 have hd:=hit_def hn
 refine ⟨h.uniq,h.pos,by rw [hl];exact htop,fun i hi=>?_,fun k hk hs=>h.none k (by rw [hl] at hk;omega) hs,fun x hx=>?_,fun x hx=>by simp at hx,Part.nil,by simp,by simp [flat_nil],?_,?_,?_⟩
 · by_cases hi2:i<rs.length
   · rw [List.getElem_append_left hi2];exact h.full i hi2
   · have e:i=rs.length:=by simp at hi;omega
     subst e
     have htx:=h.text
     rw [hw] at htx
     have e1:(rs++[r])[rs.length]=r:=by simp
     rw [e1]
     refine ⟨h1,by simpa using htx,hw,by have:=h.size;simpa using this⟩
 · rcases List.mem_append.1 hx with hx | hx
   · exact h.les x hx
   · simp at hx;subst hx;exact h.le
 · rw [hl];exact .inl ⟨hn,rfl,rfl⟩
 · rw [hl,hd];rfl
 · rw [hl,hd];simp [flat_nil]
theorem St.back {b:Int} {fs:List Fil} {rs:List (List Rec)} {r:List Rec} {m:Nat} (h:St b fs (rs++[r]) [] [] m) (hn:(hit (namB (((rs++[r]).length:Int)+b)) fs).2=false):St b fs rs r [] r.length:=by
 have hl:((rs++[r]).length:Int)+b=(rs.length:Int)+b+1:=by simp;omega
 rw [hl] at hn
 have hf:=h.full rs.length (by simp)
 have e1:(rs++[r])[rs.length]'(by simp)=r:=by simp
 rw [e1] at hf
 obtain ⟨f1,f2,f3,f4⟩:=hf
 have htop:=h.top
 rw [hl] at htop
 refine ⟨h.uniq,h.pos,by omega,fun i hi=>?_,fun k hk hs=>?_,fun x hx=>h.les x (by simp [hx]),h.les r (by simp),Part.nil,Nat.le_refl _,by simpa using f4,.inr f1,by rw [f2,f3],by rw [f2,List.take_length];exact List.prefix_refl _⟩
 · have:=h.full i (by simp;omega)
   rw [List.getElem_append_left hi] at this;exact this
 · by_cases e:k=(rs.length:Int)+b+1
   · rw [e];exact hn
   · exact h.none k (by rw [hl];omega) hs
theorem putA_inv {b:Int} {d:Dk} {rs:List (List Rec)} {r:List Rec} {m:Nat} (h:St b d.fs rs r [] m) (rec:ByteArray) (hrec:rec.size≤2048) (hsz:(flat r).length<256) :
    ((appd d (namB ((rs.length:Int)+b)) (sealB rec)).2=0→St b (appd d (namB ((rs.length:Int)+b)) (sealB rec)).1.fs rs (r++[rec.data.toList]) [] m) ∧
    ((appd d (namB ((rs.length:Int)+b)) (sealB rec)).2≠0→∃ t,St b (appd d (namB ((rs.length:Int)+b)) (sealB rec)).1.fs rs r t m∧((appd d (namB ((rs.length:Int)+b)) (sealB rec)).2≠6→t=[])):=by
  have hap:∀ k,segOk k→k≠(rs.length:Int)+b→hit (namB k) (appd d (namB ((rs.length:Int)+b)) (sealB rec)).1.fs=hit (namB k) d.fs:=fun k hk hne=>appd_apart d fun e=>hne (namB_inj hk h.ok e)
  have hl:rec.data.toList.length=rec.size:=by show rec.data.toList.length=rec.data.size;simp
  have hsl:=sld_small rec.data.toList (by omega)
  rcases appd_cases d (namB ((rs.length:Int)+b)) (sealB rec) h.uniq with ⟨e1,e2⟩ | ⟨e1,e2,e3⟩
  · rw [e1]
    refine ⟨fun h0=>?_,fun _=>⟨[],h,fun _=>rfl⟩⟩
    rcases e2 with ⟨e,_⟩ | ⟨e,_⟩ | e | ⟨e,_⟩<;>rw [e] at h0<;>cases h0
  · generalize appd d (namB ((rs.length:Int)+b)) (sealB rec)=x at e1 e2 e3 hap
    have htx:=h.text
    rw [List.append_nil] at htx
    cases hsh:short d.fuse (sealB rec) with
    | false =>
      rw [hsh] at e1
      have hc:cut d.fuse (sealB rec)=sealB rec:=by unfold cut;rw [hsh];rfl
      rw [hc] at e3
      have hfl:flat (r++[rec.data.toList])=flat r++sld rec.data.toList:=by rw [flat_app,flat_cons,flat_nil,List.append_nil]
      refine ⟨fun _=>h.turn e2 hap (fun y hy=>?_) Part.nil (by have:=h.mle;simp;omega) (by rw [hfl];simp;omega) (by rw [e3]) ?_ ?_,fun h0=>absurd e1 h0⟩
      · rcases List.mem_append.1 hy with hy | hy
        · exact h.le y hy
        · simp at hy;subst hy;omega
      · rw [e3]
        show (hit _ d.fs).1.sf.data.toList++((hit _ d.fs).1.wt++sealB rec).data.toList=_
        rw [ByteArray.data_append,Array.toList_append,sealB_list,←List.append_assoc,htx,hfl,List.append_nil]
      · rw [e3,List.take_append_of_le_length h.mle];exact h.safe
    | true =>
      rw [hsh] at e1
      have hc:cut d.fuse (sealB rec)=(sealB rec).extract 0 d.fuse.toNat:=by unfold cut;rw [hsh];rfl
      rw [hc] at e3
      have hcl:((sealB rec).extract 0 d.fuse.toNat).data.toList=(sld rec.data.toList).take d.fuse.toNat:=by rw [ByteArray.data_extract];simp [sealB]
      have hfu:d.fuse.toNat<(sld rec.data.toList).length:=by
       simp only [short,decide_eq_true_eq] at hsh
       rw [sealB_size] at hsh;omega
      refine ⟨fun h0=>(by rw [h0] at e1;cases e1),fun _=>⟨(sld rec.data.toList).take d.fuse.toNat,h.turn e2 hap h.le ⟨rec.data.toList,by unfold Dm.maxU;omega,_,hfu,rfl⟩ h.mle (by rw [List.length_append,List.length_take];omega) (by rw [e3]) ?_ (by rw [e3];exact h.safe),fun h6=>absurd e1 h6⟩⟩
      rw [e3]
      show (hit _ d.fs).1.sf.data.toList++((hit _ d.fs).1.wt++(sealB rec).extract 0 d.fuse.toNat).data.toList=_
      rw [ByteArray.data_append,Array.toList_append,hcl,←List.append_assoc,htx]
theorem syn_inv {b:Int} {d:Dk} {rs:List (List Rec)} {r:List Rec} {t:List UInt8} {m:Nat} (h:St b d.fs rs r t m) :
    ((syn d (namB ((rs.length:Int)+b))).2=0→St b (syn d (namB ((rs.length:Int)+b))).1.fs rs r t r.length∧(hit (namB ((rs.length:Int)+b)) (syn d (namB ((rs.length:Int)+b))).1.fs).2=true∧(hit (namB ((rs.length:Int)+b)) (syn d (namB ((rs.length:Int)+b))).1.fs).1.wt=⟨#[]⟩) ∧
    ((syn d (namB ((rs.length:Int)+b))).2≠0→(syn d (namB ((rs.length:Int)+b))).1=d):=by
  have hap:∀ k,segOk k→k≠(rs.length:Int)+b→hit (namB k) (syn d (namB ((rs.length:Int)+b))).1.fs=hit (namB k) d.fs:=fun k hk hne=>syn_apart d fun e=>hne (namB_inj hk h.ok e)
  rcases syn_cases d (namB ((rs.length:Int)+b)) h.uniq with ⟨e1,e2⟩ | ⟨e1,e2,e3,e4,e5⟩
  · rw [e1]
    refine ⟨fun h0=>?_,fun _=>rfl⟩
    rcases e2 with ⟨e,_⟩ | ⟨e,_⟩<;>rw [e] at h0<;>cases h0
  · refine ⟨fun _=>?_,fun h0=>absurd e1 h0⟩
    generalize syn d (namB ((rs.length:Int)+b))=x at e1 e4 e5 hap
    have htx:=h.text
    have hsf:(hit (namB ((rs.length:Int)+b)) x.1.fs).1.sf.data.toList=flat r++t:=by
     rw [e5]
     show ((hit _ d.fs).1.sf++(hit _ d.fs).1.wt).data.toList=_
     rw [ByteArray.data_append,Array.toList_append];exact htx
    refine ⟨h.turn e4 hap h.le h.part (Nat.le_refl _) h.size (by rw [e5]) ?_ ?_,by rw [e5],by rw [e5]⟩
    · rw [hsf,e5];simp
    · rw [hsf,List.take_length];exact List.prefix_append _ _
theorem crs_inv {b:Int} {d:Dk} {rs:List (List Rec)} {r:List Rec} {t:List UInt8} {m:Nat} (h:St b d.fs rs r t m) (ks:List Int) :
    ∃ us q,us <+: r∧m≤us.length∧St b (crs d ks).fs rs us q m∧(hit (namB ((rs.length:Int)+b)) (crs d ks).fs).1.wt=⟨#[]⟩:=by
  have hfull:∀ i (hi:i<rs.length),Full (crs d ks).fs ((i:Int)+b) rs[i]:=by
   intro i hi
   obtain ⟨f1,f2,f3,f4⟩:=h.full i hi
   rcases hit_crs d ks (namB ((i:Int)+b)) with ⟨e,_⟩ | ⟨_,k,e⟩
   · rw [f1] at e;cases e
   · unfold Full
     rw [e,f3]
     refine ⟨rfl,?_,rfl,f4⟩
     show ((hit _ d.fs).1.sf++(⟨#[]⟩:ByteArray).extract 0 k).data.toList=_
     rw [ByteArray.data_append,Array.toList_append,f2];simp
  have hnone:∀ k:Int,(rs.length:Int)+b<k→segOk k→(hit (namB k) (crs d ks).fs).2=false:=by
   intro k hk hs
   rcases hit_crs d ks (namB k) with ⟨_,e⟩ | ⟨e,_⟩
   · exact e
   · rw [h.none k hk hs] at e;cases e
  rcases hit_crs d ks (namB ((rs.length:Int)+b)) with ⟨e1,e2⟩ | ⟨e1,k,e2⟩
  · rcases h.last with ⟨_,rfl,rfl⟩ | e
    · have hd:=hit_def e2
      have hm:m=0:=Nat.le_zero.1 h.mle
      subst hm
      refine ⟨[],[],List.prefix_refl _,Nat.le_refl _,⟨crs_uniq d ks h.uniq,h.pos,h.top,hfull,hnone,h.les,h.le,Part.nil,Nat.le_refl _,h.size,.inl ⟨e2,rfl,rfl⟩,by rw [hd];rfl,by rw [hd];simp [flat_nil]⟩,by rw [hd]⟩
    · rw [e1] at e;cases e
  · have htx:=h.text
    have hsf:(hit (namB ((rs.length:Int)+b)) (crs d ks).fs).1.sf.data.toList=(hit (namB ((rs.length:Int)+b)) d.fs).1.sf.data.toList++(hit (namB ((rs.length:Int)+b)) d.fs).1.wt.data.toList.take k:=by
     rw [e2]
     show ((hit _ d.fs).1.sf++(hit _ d.fs).1.wt.extract 0 k).data.toList=_
     rw [ByteArray.data_append,Array.toList_append,ByteArray.data_extract];simp
    have hpre:(hit (namB ((rs.length:Int)+b)) (crs d ks).fs).1.sf.data.toList <+: flat r++t:=by
     rw [hsf,←htx]
     exact (List.prefix_append_right_inj _).2 (List.take_prefix _ _)
    have hsz:=hpre.length_le
    obtain ⟨us,q,u1,u2,u3⟩:=pre_part r t _ h.le h.part hpre
    have hle:Le us:=fun x hx=>h.le x (u1.subset hx)
    have hsafe:flat (r.take m) <+: flat us++q:=by
     rw [←u3,hsf]
     exact h.safe.trans (List.prefix_append _ _)
    have hml:=whole_in hle h.le u2 h.mle hsafe
    obtain ⟨v,hv⟩:=u1
    have htk:r.take m=us.take m:=by rw [←hv,List.take_append_of_le_length hml]
    refine ⟨us,q,⟨v,hv⟩,hml,⟨crs_uniq d ks h.uniq,h.pos,h.top,hfull,hnone,h.les,hle,u2,hml,by rw [←u3];exact Nat.le_trans hsz h.size,.inr (by rw [e2]),?_,by rw [←htk,u3];exact hsafe⟩,by rw [e2]⟩
    rw [u3,e2];simp
theorem cut_inv {b:Int} {x:Dk} {rs:List (List Rec)} {us:List Rec} {q:List UInt8} {m:Nat} (h:St b x.fs rs us q m) (h1:x.off=false) (h2:x.fuse<0) (hhit:(hit (namB ((rs.length:Int)+b)) x.fs).2=true) :
    (cutM x ((rs.length:Int)+b) ⟨(flat us).toArray⟩).2=5∨((cutM x ((rs.length:Int)+b) ⟨(flat us).toArray⟩).2=0∧St b (cutM x ((rs.length:Int)+b) ⟨(flat us).toArray⟩).1.fs rs us [] us.length ∧
      (hit (namB ((rs.length:Int)+b)) (cutM x ((rs.length:Int)+b) ⟨(flat us).toArray⟩).1.fs).2=true∧(hit (namB ((rs.length:Int)+b)) (cutM x ((rs.length:Int)+b) ⟨(flat us).toArray⟩).1.fs).1.wt=⟨#[]⟩):=by
  obtain ⟨s,hs⟩:∃ s:ByteArray,s=⟨(flat us).toArray⟩:=⟨_,rfl⟩
  have hsl:s.data.toList=flat us:=by rw [hs]
  have hsz:s.size≤8192:=by
   have e:s.size=(flat us).length:=by rw [←hsl];show s.data.size=_;simp
   have:=h.size
   rw [List.length_append] at this;omega
  rw [←hs]
  clear hs
  have c1:(cut1 x).2=0∧Uniq (cut1 x).1.fs∧(hit freshB (cut1 x).1.fs).2=false∧(cut1 x).1.off=false∧(cut1 x).1.fuse<0∧∀ o,o≠freshB→hit o (cut1 x).1.fs=hit o x.fs:=by
   unfold Wm.cut1
   split
   · rename_i hf
     obtain ⟨a1,a2,a3,a4,a5⟩:=del_on x freshB h.uniq h1 h2 hf
     exact ⟨a1,a2,a3,a4,a5,fun o ho=>del_apart x ho⟩
   · rename_i hf
     exact ⟨rfl,h.uniq,by simpa using hf,h1,h2,fun o _=>rfl⟩
  obtain ⟨a1,a2,a3,a4,a5,a6⟩:=c1
  have e2:cut2 x s=appd (cut1 x).1 freshB s:=by unfold Wm.cut2;rw [if_pos a1]
  have hsh:short (cut1 x).1.fuse s=false:=by unfold short;simp;omega
  have hct:Dkm.cut (cut1 x).1.fuse s=s:=by unfold Dkm.cut;rw [hsh];rfl
  have hdef:=hit_def a3
  rcases appd_cases (cut1 x).1 freshB s a2 with ⟨b1,b2⟩ | ⟨b1,b2,b3⟩
  · -- nothing was appended
    have h5:(cut2 x s).2=5:=by
     rw [e2]
     rcases b2 with ⟨_,e⟩ | ⟨_,e⟩ | e | ⟨_,e⟩
     · rw [a4] at e;cases e
     · exact absurd e (by decide)
     · exact e
     · rw [hdef] at e
       have e0:(⟨#[]⟩:ByteArray).size=0:=rfl
       rw [e0] at e;omega
    have h3:(cut3 x s).2=5:=by unfold Wm.cut3;rw [if_neg (by rw [h5];decide)];exact h5
    have h4:(cut4 x ((rs.length:Int)+b) s).2=5:=by unfold Wm.cut4;rw [if_neg (by rw [h3];decide)];exact h3
    left
    unfold Wm.cutM;rw [if_neg (by rw [h4];decide)];exact h4
  · rw [hsh] at b1
    rw [hct,hdef] at b3
    have b1:(appd (cut1 x).1 freshB s).2=0:=b1
    obtain ⟨p1,p2⟩:=appd_pow (cut1 x).1 freshB s a4 a5
    have b6:∀ o,o≠freshB→hit o (cut2 x s).1.fs=hit o x.fs:=fun o ho=>by rw [e2];exact (appd_apart _ ho).trans (a6 o ho)
    rw [←e2] at b1 b2 b3 p1 p2
    have e3:cut3 x s=syn (cut2 x s).1 freshB:=by unfold Wm.cut3;rw [if_pos b1]
    obtain ⟨r1,r2⟩:=syn_pow (cut2 x s).1 freshB p1 p2
    rcases syn_cases (cut2 x s).1 freshB b2 with ⟨_,d2⟩ | ⟨d1,_,_,d4,d5⟩
    · exfalso
      rcases d2 with ⟨_,e⟩ | ⟨_,e⟩
      · rw [p1] at e;cases e
      · rw [b3] at e;cases e
    rw [b3] at d5
    have d6:∀ o,o≠freshB→hit o (cut3 x s).1.fs=hit o x.fs:=fun o ho=>by rw [e3];exact (syn_apart _ ho).trans (b6 o ho)
    rw [←e3] at d1 d4 d5 r1 r2
    have e4:cut4 x ((rs.length:Int)+b) s=ren (cut3 x s).1 freshB (namB ((rs.length:Int)+b)):=by unfold Wm.cut4;rw [if_pos d1]
    have hnok:nmOk (namB ((rs.length:Int)+b))=true:=by have:=namB_ok h.ok;unfold nmOk;simp;omega
    obtain ⟨f1,f2,f3,f4,f5⟩:=ren_on (cut3 x s).1 freshB (namB ((rs.length:Int)+b)) d4 r1 r2 (by rw [d5]) hnok (Ne.symm (namB_fresh h.ok))
    rw [d5] at f3
    have f6:∀ o,o≠freshB→o≠namB ((rs.length:Int)+b)→hit o (cut4 x ((rs.length:Int)+b) s).1.fs=hit o x.fs:=fun o ho ho2=>by rw [e4];exact (ren_apart _ ho ho2).trans (d6 o ho)
    rw [←e4] at f1 f2 f3
    have hap:∀ k,segOk k→k≠(rs.length:Int)+b→hit (namB k) (cut4 x ((rs.length:Int)+b) s).1.fs=hit (namB k) x.fs:=fun k hk hne=>f6 _ (namB_fresh hk) fun e=>hne (namB_inj hk h.ok e)
    have hS:St b (cut4 x ((rs.length:Int)+b) s).1.fs rs us [] us.length:=by
     have hsf:(hit (namB ((rs.length:Int)+b)) (cut4 x ((rs.length:Int)+b) s).1.fs).1.sf.data.toList=flat us:=by
      rw [f3]
      show ((⟨#[]⟩:ByteArray)++((⟨#[]⟩:ByteArray)++s)).data.toList=_
      rw [ByteArray.data_append,ByteArray.data_append,Array.toList_append,Array.toList_append,hsl];rfl
     refine h.turn f2 hap h.le Part.nil (Nat.le_refl _) (by have:=h.size;rw [List.length_append] at this ⊢;simp;omega) (by rw [f3]) ?_ (by rw [hsf,List.take_length];exact List.prefix_refl _)
     rw [hsf,f3]
    have hd:dels (fuelOf ((rs.length:Int)+b+1)) (cut4 x ((rs.length:Int)+b) s).1 ((rs.length:Int)+b+1)=((cut4 x ((rs.length:Int)+b) s).1,0):=by
     cases hfu:fuelOf ((rs.length:Int)+b+1) with
     | zero=>rfl
     | succ n =>
       unfold Wm.dels
       rw [if_neg]
       rintro ⟨g1,g2⟩
       rw [hS.none _ (by omega) g1] at g2;cases g2
    right
    unfold Wm.cutM
    rw [if_pos f1,hd]
    exact ⟨rfl,hS,by rw [f3],by rw [f3]⟩
theorem rec_st {b:Int} (x:Dk) {rs:List (List Rec)} {us:List Rec} {q:List UInt8} {m:Nat} (h:St b x.fs rs us q m) :
    recM x b=recF (1000001 - b - (rs.length:Int)).toNat x b ((rs.length:Int)+b) rs.flatten (if rs=[] then b else (rs.length:Int)+b - 1):=by
  have htop:=h.top
  have hpos:=h.pos
  unfold Wm.recM
  rw [if_neg (by unfold segOk;omega)]
  have e:fuelOf b=rs.length+(1000001 - b - (rs.length:Int)).toNat:=by unfold fuelOf;omega
  rw [e,recF_full x b rs _ b [] b (fun i hi=>by rw [show b+(i:Int)=(i:Int)+b by omega];exact h.full i hi) h.les (by omega) (by omega)]
  rw [show b+(rs.length:Int)=(rs.length:Int)+b by omega,List.nil_append]
theorem rec_clean {b:Int} {x:Dk} {rs:List (List Rec)} {us:List Rec} {m:Nat} (h:St b x.fs rs us [] m) (hw:(hit (namB ((rs.length:Int)+b)) x.fs).1.wt=⟨#[]⟩) :
    recM x b=(x,rs.flatten++us,if (hit (namB ((rs.length:Int)+b)) x.fs).2 then (rs.length:Int)+b else if rs=[] then b else (rs.length:Int)+b - 1,0):=by
  rw [rec_st x h]
  have htop:=h.top
  obtain ⟨n,hn⟩:∃ n,(1000001 - b - (rs.length:Int)).toNat=n+1:=⟨(1000001 - b - (rs.length:Int)).toNat - 1,by omega⟩
  rw [hn]
  conv=>lhs;unfold Wm.recF
  rw [if_neg (by simpa using h.ok)]
  rcases h.last with ⟨e,rfl,_⟩ | e
  · have hrd:(redd (namB ((rs.length:Int)+b)) x.fs).2=7:=by unfold redd;rw [e];rfl
    rw [if_pos (by rw [hrd];decide),e]
    simp
  · have hrd:redd (namB ((rs.length:Int)+b)) x.fs=((hit (namB ((rs.length:Int)+b)) x.fs).1.sf++(hit (namB ((rs.length:Int)+b)) x.fs).1.wt,0):=by unfold redd;rw [e,if_pos rfl]
    have hsc:scn (redd (namB ((rs.length:Int)+b)) x.fs).1.data.toList=(us,[]):=by
     rw [hrd]
     show scn ((hit _ x.fs).1.sf++(hit _ x.fs).1.wt).data.toList=_
     rw [ByteArray.data_append,Array.toList_append,h.text,List.append_nil]
     exact scn_flat us h.le
    rw [if_neg (by rw [hrd];simp),hsc,e]
    simp only [if_true]
    cases n with
    | zero=>rfl
    | succ n =>
      unfold Wm.recF
      by_cases hs:segOk ((rs.length:Int)+b+1)
      · rw [if_neg (by simpa using hs)]
        have hno:=h.none _ (by omega) hs
        have hrd2:(redd (namB ((rs.length:Int)+b+1)) x.fs).2=7:=by unfold redd;rw [hno];rfl
        rw [if_pos (by rw [hrd2];decide)]
      · rw [if_pos hs]
theorem rec_torn {b:Int} {x:Dk} {rs:List (List Rec)} {us:List Rec} {q:List UInt8} {m:Nat} (h:St b x.fs rs us q m) (hq:q≠[]) :
    (hit (namB ((rs.length:Int)+b)) x.fs).2=true ∧
    recM x b=if (cutM x ((rs.length:Int)+b) ⟨(flat us).toArray⟩).2≠0 then ((cutM x ((rs.length:Int)+b) ⟨(flat us).toArray⟩).1,[],b,(cutM x ((rs.length:Int)+b) ⟨(flat us).toArray⟩).2)
      else ((cutM x ((rs.length:Int)+b) ⟨(flat us).toArray⟩).1,rs.flatten++us,(rs.length:Int)+b,0):=by
  have htop:=h.top
  rcases h.last with ⟨_,_,e⟩ | e
  · exact absurd e hq
  refine ⟨e,?_⟩
  rw [rec_st x h]
  obtain ⟨n,hn⟩:∃ n,(1000001 - b - (rs.length:Int)).toNat=n+1:=⟨(1000001 - b - (rs.length:Int)).toNat - 1,by omega⟩
  rw [hn]
  have hrd:redd (namB ((rs.length:Int)+b)) x.fs=((hit (namB ((rs.length:Int)+b)) x.fs).1.sf++(hit (namB ((rs.length:Int)+b)) x.fs).1.wt,0):=by unfold redd;rw [e,if_pos rfl]
  have hsc:scn (redd (namB ((rs.length:Int)+b)) x.fs).1.data.toList=(us,q):=by
   rw [hrd]
   show scn ((hit _ x.fs).1.sf++(hit _ x.fs).1.wt).data.toList=_
   rw [ByteArray.data_append,Array.toList_append,h.text]
   exact scn_part us h.le h.part
  unfold Wm.recF
  rw [if_neg (by simpa using h.ok),if_neg (by rw [hrd];simp),hsc]
  simp only
  rw [if_neg hq]
def In (b:Int) (w:Lw):Prop:=∃ rs r t m,St b w.d.fs rs r t m∧w.seg=(rs.length:Int)+b∧w.put=rs.flatten++r∧w.safe≤rs.flatten.length+m∧(w.dead=false→t=[])
theorem St.redd {b:Int} {fs:List Fil} {rs:List (List Rec)} {r:List Rec} {t:List UInt8} {m:Nat} (h:St b fs rs r t m):(redd (namB ((rs.length:Int)+b)) fs).1.data.toList=flat r++t:=by
 have htx:=h.text
 unfold Dkm.redd
 split
 · show ((hit _ fs).1.sf++(hit _ fs).1.wt).data.toList=_
   rw [ByteArray.data_append,Array.toList_append];exact htx
 · rename_i hh
   rw [hit_def (by simpa using hh)] at htx
   rw [←htx];rfl
theorem arm_in {b:Int} {w:Lw} (h:In b w) (d':Dk) (hd:d'.fs=w.d.fs):In b { w with d:=d' }:=by
 obtain ⟨rs,r,t,m,h1,h2,h3,h4,h5⟩:=h
 exact ⟨rs,r,t,m,by show St b d'.fs rs r t m;rw [hd];exact h1,h2,h3,h4,h5⟩
theorem put_in {b:Int} {w:Lw} (h:In b w) (rec:ByteArray):In b (w.puts rec):=by
 obtain ⟨d,seg,put,safe,dead⟩:=w
 obtain ⟨rs,r,t,m,h1,h2,h3,h4,h5⟩:=h
 simp only at h1 h2 h3 h4 h5
 unfold Lw.puts
 cases dead with
 | true=>exact ⟨rs,r,t,m,h1,h2,h3,h4,h5⟩
 | false =>
   have ht:=h5 rfl
   subst ht
   simp only [Bool.false_eq_true,if_false]
   have hok:segOk seg:=by rw [h2];exact h1.ok
   unfold putM
   rw [if_neg (by simpa using hok)]
   by_cases hbig:2048<rec.size
   · rw [if_pos hbig]
     exact ⟨rs,r,[],m,h1,h2,by simpa using h3,by simpa using h4,fun _=>rfl⟩
   · rw [if_neg hbig]
     have hrd:(redd (namB seg) d.fs).1.size=(flat r).length:=by
      rw [h2]
      have:=congrArg List.length h1.redd
      rw [List.append_nil] at this
      rw [←this]
      show (redd _ d.fs).1.data.size=_
      simp
     unfold putB
     by_cases hsm:(redd (namB seg) d.fs).1.size<256
     · rw [if_pos hsm]
       unfold putA
       obtain ⟨p1,p2⟩:=putA_inv h1 rec (by omega) (by omega)
       rw [←h2] at p1 p2
       by_cases h0:(appd d (namB seg) (sealB rec)).2=0
       · refine ⟨rs,r++[rec.data.toList],[],m,p1 h0,h2,?_,by simpa using h4,fun _=>rfl⟩
         simp only [h0,if_true,h3,List.append_assoc]
       · obtain ⟨t,q1,q2⟩:=p2 h0
         refine ⟨rs,r,t,m,q1,h2,by simp only [h0,if_false];exact h3,by simpa using h4,fun hd=>q2 (by simpa using hd)⟩
     · rw [if_neg hsm]
       obtain ⟨s1,s2⟩:=syn_inv h1
       rw [←h2] at s1 s2
       by_cases h0:(syn d (namB seg)).2=0
       · rw [if_neg (by simpa using h0)]
         obtain ⟨u1,u2,u3⟩:=s1 h0
         by_cases hmx:seg=1000000
         · rw [if_pos hmx]
           have:=h1.mle
           refine ⟨rs,r,[],r.length,u1,h2,by simpa using h3,?_,fun _=>rfl⟩
           simp only [ne_eq,not_true_eq_false,if_false];omega
         · rw [if_neg hmx]
           unfold putA
           have htop:=h1.top
           have hn:=u1.next (by omega) (by rw [←h2];exact u2) (by rw [←h2];exact u3)
           have hl:seg+1=((rs++[r]).length:Int)+b:=by rw [h2];simp;omega
           obtain ⟨p1,p2⟩:=putA_inv hn rec (by omega) (by simp [flat_nil])
           rw [←hl] at p1 p2
           have hput:put=(rs++[r]).flatten:=by rw [h3];simp
           have hne:seg+1≠seg:=by omega
           by_cases h7:(appd (syn d (namB seg)).1 (namB (seg+1)) (sealB rec)).2=0
           · refine ⟨rs++[r],[]++[rec.data.toList],[],0,p1 h7,hl,?_,?_,fun _=>rfl⟩
             · simp only [h7,if_true,hput,List.nil_append]
             · simp only [hne,ne_eq,not_false_eq_true,if_true,hput];omega
           · obtain ⟨t,q1,q2⟩:=p2 h7
             refine ⟨rs++[r],[],t,0,q1,hl,?_,?_,fun hd=>q2 (by simpa using hd)⟩
             · simp only [h7,if_false,hput,List.append_nil]
             · simp only [hne,ne_eq,not_false_eq_true,if_true,hput];omega
       · rw [if_pos (by simpa using h0),s2 h0]
         refine ⟨rs,r,[],m,h1,h2,by simp only [h0,if_false];exact h3,by simpa using h4,fun _=>rfl⟩
theorem sync_in {b:Int} {w:Lw} (h:In b w):In b w.syncs:=by
 obtain ⟨d,seg,put,safe,dead⟩:=w
 obtain ⟨rs,r,t,m,h1,h2,h3,h4,h5⟩:=h
 simp only at h1 h2 h3 h4 h5
 have hput:put.length=rs.flatten.length+r.length:=by rw [h3,List.length_append]
 have hmle:=h1.mle
 unfold Lw.syncs syncM
 simp only
 by_cases hh:(hit (namB seg) d.fs).2=true
 · rw [if_pos hh]
   obtain ⟨s1,s2⟩:=syn_inv h1
   rw [←h2] at s1 s2
   by_cases h0:(syn d (namB seg)).2=0
   · obtain ⟨u1,_,_⟩:=s1 h0
     refine ⟨rs,r,t,r.length,u1,h2,h3,?_,h5⟩
     simp only [h0,true_and]
     split<;>omega
   · rw [s2 h0]
     exact ⟨rs,r,t,m,h1,h2,h3,by simp only [h0,false_and,if_false];exact h4,h5⟩
 · rw [if_neg hh]
   have hr:r=[]:=by
    rcases h1.last with ⟨_,e,_⟩ | e
    · exact e
    · rw [←h2] at e;exact absurd e hh
   subst hr
   have hm:m=0:=Nat.le_zero.1 hmle
   subst hm
   refine ⟨rs,[],t,0,h1,h2,h3,?_,h5⟩
   simp only [true_and]
   split
   · have e0:([]:List Rec).length=0:=rfl
     omega
   · exact h4
theorem clean_in {b:Int} {x:Dk} {rs:List (List Rec)} {us:List Rec} {m safe:Nat} (h:St b x.fs rs us [] m) (hs:safe≤rs.flatten.length+us.length) (hw:(hit (namB ((rs.length:Int)+b)) x.fs).1.wt=⟨#[]⟩) :
    In b ⟨x,if (hit (namB ((rs.length:Int)+b)) x.fs).2 then (rs.length:Int)+b else if rs=[] then b else (rs.length:Int)+b - 1,rs.flatten++us,safe,false⟩:=by
  cases hh:(hit (namB ((rs.length:Int)+b)) x.fs).2 with
  | true =>
    have hS:St b x.fs rs us [] us.length:=by
     refine h.turn h.uniq (fun k _ _=>rfl) h.le h.part (Nat.le_refl _) h.size hh h.text ?_
     have htx:=h.text
     rw [hw] at htx
     rw [List.take_length]
     have e:(hit (namB ((rs.length:Int)+b)) x.fs).1.sf.data.toList=flat us:=by simpa using htx
     rw [e];exact List.prefix_refl _
    exact ⟨rs,us,[],us.length,hS,rfl,rfl,hs,fun _=>rfl⟩
  | false =>
    have hus:us=[]:=by
     rcases h.last with ⟨_,e,_⟩ | e
     · exact e
     · rw [hh] at e;cases e
    subst hus
    simp only [Bool.false_eq_true,if_false]
    by_cases hr:rs=[]
    · subst hr
      rw [if_pos rfl]
      exact ⟨[],[],[],m,h,by simp,rfl,by simp at hs ⊢;omega,fun _=>rfl⟩
    · rw [if_neg hr]
      obtain ⟨a,b,rfl⟩:∃ a b,rs=a++[b]:=⟨rs.dropLast,rs.getLast hr,(List.dropLast_concat_getLast hr).symm⟩
      exact ⟨a,b,[],b.length,h.back hh,by simp;omega,by simp,by simp at hs ⊢;omega,fun _=>rfl⟩
theorem crash_in {b:Int} {w:Lw} (h:In b w) (ks:List Int) :
    (recM (crs w.d ks) b).2.2.2=5 ∨
    ((recM (crs w.d ks) b).2.2.2=0∧(recM (crs w.d ks) b).2.1 <+: w.put∧w.safe≤(recM (crs w.d ks) b).2.1.length ∧
      recM (recM (crs w.d ks) b).1 b=((recM (crs w.d ks) b).1,(recM (crs w.d ks) b).2.1,(recM (crs w.d ks) b).2.2.1,0) ∧
      In b ⟨(recM (crs w.d ks) b).1,(recM (crs w.d ks) b).2.2.1,(recM (crs w.d ks) b).2.1,w.safe,false⟩):=by
  obtain ⟨rs,r,t,m,h1,h2,h3,h4,h5⟩:=h
  obtain ⟨us,q,u1,u2,u3,u4⟩:=crs_inv h1 ks
  obtain ⟨p1,p2⟩:=crs_pow w.d ks
  generalize crs w.d ks=x at u3 u4 p1 p2
  have hpre:rs.flatten++us <+: w.put:=by rw [h3];exact (List.prefix_append_right_inj _).2 u1
  have hsafe:w.safe≤(rs.flatten++us).length:=by rw [List.length_append];omega
  by_cases hq:q=[]
  · subst hq
    have e:=rec_clean u3 u4
    rw [e]
    exact .inr ⟨rfl,hpre,hsafe,e,clean_in u3 (by omega) u4⟩
  · obtain ⟨hh,e⟩:=rec_torn u3 hq
    rw [e]
    rcases cut_inv u3 p1 p2 hh with c | ⟨c1,c2,c3,c4⟩
    · left;rw [if_pos (by rw [c];decide)];exact c
    · rw [if_neg (by rw [c1];decide)]
      generalize (cutM x ((rs.length:Int)+b) ⟨(flat us).toArray⟩).1=y at c2 c3 c4
      have e2:=rec_clean c2 c4
      have i2:=clean_in (safe:=w.safe) c2 (by rw [List.length_append] at hsafe;exact hsafe) c4
      rw [c3] at e2 i2
      exact .inr ⟨rfl,hpre,hsafe,e2,i2⟩
end Wb
end
section
open Dkm Prm Wm Du Wl
namespace Wb
theorem St.keep {b:Int} {fs fs':List Fil} {rs:List (List Rec)} {r:List Rec} {t:List UInt8} {m:Nat} (h:St b fs rs r t m) (hu:Uniq fs') (ha:∀ k,segOk k→hit (namB k) fs'=hit (namB k) fs):St b fs' rs r t m where
  uniq:=hu
  pos:=h.pos
  top:=h.top
  full i hi:=by
   have hs:segOk ((i:Int)+b):=by have:=h.top;have:=h.pos;unfold segOk;omega
   unfold Full
   rw [ha _ hs]
   exact h.full i hi
  none k hk hs:=by rw [ha k hs];exact h.none k hk hs
  les:=h.les
  le:=h.le
  part:=h.part
  mle:=h.mle
  size:=h.size
  last:=by rw [ha _ h.ok];exact h.last
  text:=by rw [ha _ h.ok];exact h.text
  safe:=by rw [ha _ h.ok];exact h.safe
theorem In.keep {b:Int} {w:Lw} (h:In b w) (d':Dk) (hu:Uniq d'.fs) (ha:∀ k,segOk k→hit (namB k) d'.fs=hit (namB k) w.d.fs):In b { w with d:=d' }:=by
 obtain ⟨rs,r,t,m,h1,h2,h3,h4,h5⟩:=h
 exact ⟨rs,r,t,m,h1.keep hu ha,h2,h3,h4,h5⟩
theorem In.above {b:Int} {w:Lw} (h:In b w) {k:Int} (hk:w.seg<k) (hs:segOk k):(hit (namB k) w.d.fs).2=false:=by
 obtain ⟨rs,r,t,m,h1,h2,h3,h4,h5⟩:=h
 exact h1.none _ (by omega) hs
end Wb
namespace Km
theorem pow_off {d:Dk} (h:d.off=false) (hp:¬ (pow d).2=false):(pow d).1.off=false:=by
 unfold pow at hp ⊢
 split at hp
 · exact absurd rfl hp
 · rename_i h1
   rw [if_neg h1]
   split<;>exact h
theorem appd_off {d:Dk} {nm s:ByteArray} (h:d.off=false) (h6:(appd d nm s).2≠6):(appd d nm s).1.off=false:=by
 unfold appd at h6 ⊢
 split
 · exact h
 split
 · exact h
 split
 · exact h
 split
 · exact h
 rename_i h1 h2 h3 h4
 rw [if_neg h1,if_neg h2,if_neg h3,if_neg h4] at h6
 show short d.fuse s=false
 cases hs:short d.fuse s with
 | false=>rfl
 | true=>rw [hs] at h6;exact absurd rfl h6
theorem syn_off {d:Dk} {nm:ByteArray} (h:d.off=false):(syn d nm).1.off=false:=by
 unfold syn
 split
 · exact h
 split<;>exact h
theorem del_off {d:Dk} {nm:ByteArray} (h:d.off=false) (h6:(del d nm).2≠6):(del d nm).1.off=false:=by
 unfold del at h6 ⊢
 split
 · exact h
 split
 · exact h
 rename_i h1 h2
 rw [if_neg h1,if_neg h2] at h6
 split at h6
 · exact absurd rfl h6
 · rename_i h3
   rw [if_neg h3]
   exact pow_off h h3
theorem ren_off {d:Dk} {fr tu:ByteArray} (h:d.off=false) (h6:(ren d fr tu).2≠6):(ren d fr tu).1.off=false:=by
 unfold ren at h6 ⊢
 split
 · exact h
 split
 · exact h
 split
 · exact h
 split
 · exact h
 rename_i h1 h2 h3 h4
 rw [if_neg h1,if_neg h2,if_neg h3,if_neg h4] at h6
 split at h6
 · exact absurd rfl h6
 · rename_i h5
   rw [if_neg h5]
   split
   · exact pow_off h h5
   · exact pow_off h h5
theorem lay_off {d:Dk} {nm s:ByteArray} (h:d.off=false) (h6:(Rn.lay d nm s).2≠6):(Rn.lay d nm s).1.off=false:=by
 have a1:(Rn.lay1 d nm).2≠6→(Rn.lay1 d nm).1.off=false:=by
  unfold Rn.lay1;split
  · exact del_off h
  · exact fun _=>h
 have a2:(Rn.lay2 d nm s).2≠6→(Rn.lay2 d nm s).1.off=false:=by
  unfold Rn.lay2;split
  · rename_i h0;exact appd_off (a1 (by rw [h0];decide))
  · exact a1
 have a3:(Rn.lay3 d nm s).2≠6→(Rn.lay3 d nm s).1.off=false:=by
  unfold Rn.lay3;split
  · rename_i h0;exact fun _=>syn_off (a2 (by rw [h0];decide))
  · exact a2
 revert h6
 unfold Rn.lay;split
 · rename_i h0;exact ren_off (a3 (by rw [h0];decide))
 · exact a3
theorem drp_off:∀ (n:Nat) (d:Dk) (s til:Int),d.off=false→(drpF n d s til).2≠6→(drpF n d s til).1.off=false
  | 0,d,s,til,h,_=>h
  | n + 1,d,s,til,h,h6=>by
    revert h6
    unfold drpF
    split
    · split
      · split
        · exact del_off h
        · rename_i h0
          exact drp_off n _ _ _ (del_off h (by have:(del d (namB s)).2=0:=by simpa using h0
                                               rw [this];decide))
      · exact drp_off n _ _ _ h
    · exact fun _=>h
theorem swp_off {d:Dk} {run frm til:Int} (h:d.off=false) (h6:(swpM d run frm til).2≠6):(swpM d run frm til).1.off=false:=by
 revert h6
 unfold swpM swpB
 have e:(if (hit (rnamB run) d.fs).2=true then del d (rnamB run) else (d,(0:Int))).2≠6→(if (hit (rnamB run) d.fs).2=true then del d (rnamB run) else (d,(0:Int))).1.off=false:=by
  split
  · exact del_off h
  · exact fun _=>h
 generalize (if (hit (rnamB run) d.fs).2=true then del d (rnamB run) else (d,(0:Int)))=x at e ⊢
 split
 · exact e
 · rename_i h0
   have h0:x.2=0:=by simpa using h0
   exact drp_off _ _ _ _ (e (by rw [h0];decide))
theorem putM_off {d:Dk} {seg:Int} {r:ByteArray} (h:d.off=false) (h6:(putM d seg r).2.2≠6):(putM d seg r).1.off=false:=by
 revert h6
 unfold putM
 split
 · exact fun _=>h
 split
 · exact fun _=>h
 unfold putB putA
 split
 · exact appd_off h
 split
 · exact fun _=>syn_off h
 split
 · exact fun _=>syn_off h
 · exact appd_off (syn_off h)
theorem dels_off:∀ (n:Nat) (d:Dk) (seg:Int),d.off=false→(dels n d seg).2≠6→(dels n d seg).1.off=false
  | 0,d,seg,h,_=>h
  | n + 1,d,seg,h,h6=>by
    revert h6
    unfold dels
    split
    · split
      · rename_i h0;exact dels_off n _ _ (del_off h (by rw [h0];decide))
      · exact del_off h
    · exact fun _=>h
theorem cut_off {d:Dk} {seg:Int} {s:ByteArray} (h:d.off=false) (h6:(cutM d seg s).2≠6):(cutM d seg s).1.off=false:=by
 have a1:(cut1 d).2≠6→(cut1 d).1.off=false:=by
  unfold cut1;split
  · exact del_off h
  · exact fun _=>h
 have a2:(cut2 d s).2≠6→(cut2 d s).1.off=false:=by
  unfold cut2;split
  · rename_i h0;exact appd_off (a1 (by rw [h0];decide))
  · exact a1
 have a3:(cut3 d s).2≠6→(cut3 d s).1.off=false:=by
  unfold cut3;split
  · rename_i h0;exact fun _=>syn_off (a2 (by rw [h0];decide))
  · exact a2
 have a4:(cut4 d seg s).2≠6→(cut4 d seg s).1.off=false:=by
  unfold cut4;split
  · rename_i h0;exact ren_off (a3 (by rw [h0];decide))
  · exact a3
 revert h6
 unfold cutM
 split
 · rename_i h0;exact dels_off _ _ _ (a4 (by rw [h0];decide))
 · exact a4
theorem recF_off:∀ (n:Nat) (d:Dk) (f seg:Int) (rs:List (List UInt8)) (last:Int),d.off=false→(recF n d f seg rs last).2.2.2≠6→(recF n d f seg rs last).1.off=false
  | 0,d,f,seg,rs,last,h,_=>h
  | n + 1,d,f,seg,rs,last,h,h6=>by
    revert h6
    unfold recF
    split
    · exact fun _=>h
    split
    · exact fun _=>h
    split
    · exact recF_off n _ _ _ _ _ h
    split
    · exact cut_off h
    · rename_i h0
      exact fun _=>cut_off h (by rw [Classical.not_not.1 h0];decide)
theorem rec_off {d:Dk} {f:Int} (h:d.off=false) (h6:(recM d f).2.2.2≠6):(recM d f).1.off=false:=by
 revert h6
 unfold recM
 split
 · exact fun _=>h
 · exact recF_off _ _ _ _ _ _ h
theorem putM_others {o:ByteArray} (ho:∀ k,o≠namB k) (d:Dk) (seg:Int) (r:ByteArray):hit o (putM d seg r).1.fs=hit o d.fs:=by
 unfold putM
 split
 · rfl
 split
 · rfl
 unfold putB putA
 split
 · exact appd_apart _ (ho _)
 split
 · exact syn_apart _ (ho _)
 split
 · exact syn_apart _ (ho _)
 · exact (appd_apart _ (ho _)).trans (syn_apart _ (ho _))
theorem syncM_others {o:ByteArray} (ho:∀ k,o≠namB k) (d:Dk) (seg:Int):hit o (syncM d seg).1.fs=hit o d.fs:=by
 unfold syncM
 split
 · exact syn_apart _ (ho _)
 · rfl
theorem dels_others {o:ByteArray} (ho:∀ k,o≠namB k):∀ (n:Nat) (d:Dk) (seg:Int),hit o (dels n d seg).1.fs=hit o d.fs
  | 0,d,seg=>rfl
  | n + 1,d,seg=>by
    unfold dels
    split
    · split
      · exact (dels_others ho n _ _).trans (del_apart d (ho _))
      · exact del_apart d (ho _)
    · rfl
theorem nd_dels:∀ (n:Nat) (d:Dk) (seg:Int),Nd d.fs→Nd (dels n d seg).1.fs
  | 0,d,seg,h=>h
  | n + 1,d,seg,h=>by
    unfold dels
    split
    · split
      · exact nd_dels n _ _ (nd_del h _)
      · exact nd_del h _
    · exact h
theorem cut_others {o:ByteArray} (ho:∀ k,o≠namB k) (hf:o≠freshB) (d:Dk) (seg:Int) (s:ByteArray):hit o (cutM d seg s).1.fs=hit o d.fs:=by
 have a1:hit o (cut1 d).1.fs=hit o d.fs:=by unfold cut1;split;exact del_apart d hf;rfl
 have a2:hit o (cut2 d s).1.fs=hit o d.fs:=by unfold cut2;split;exact (appd_apart _ hf).trans a1;exact a1
 have a3:hit o (cut3 d s).1.fs=hit o d.fs:=by unfold cut3;split;exact (syn_apart _ hf).trans a2;exact a2
 have a4:hit o (cut4 d seg s).1.fs=hit o d.fs:=by unfold cut4;split;exact (ren_apart _ hf (ho _)).trans a3;exact a3
 unfold cutM
 split
 · exact (dels_others ho _ _ _).trans a4
 · exact a4
theorem nd_cut {d:Dk} (h:Nd d.fs) (seg:Int) (s:ByteArray):Nd (cutM d seg s).1.fs:=by
 have a1:Nd (cut1 d).1.fs:=by unfold cut1;split;exact nd_del h _;exact h
 have a2:Nd (cut2 d s).1.fs:=by unfold cut2;split;exact nd_appd a1 _ _;exact a1
 have a3:Nd (cut3 d s).1.fs:=by unfold cut3;split;exact nd_syn a2 _;exact a2
 have a4:Nd (cut4 d seg s).1.fs:=by unfold cut4;split;exact nd_ren a3 _ _;exact a3
 unfold cutM
 split
 · exact nd_dels _ _ _ a4
 · exact a4
theorem recF_disk:∀ (n:Nat) (d:Dk) (f seg:Int) (rs:List (List UInt8)) (last:Int),(recF n d f seg rs last).1=d∨∃ k s,(recF n d f seg rs last).1=(cutM d k s).1
  | 0,d,f,seg,rs,last=>.inl rfl
  | n+1,d,f,seg,rs,last=>by
    unfold recF
    split
    · exact .inl rfl
    split
    · exact .inl rfl
    split
    · exact recF_disk n _ _ _ _ _
    split
    · exact .inr ⟨_,_,rfl⟩
    · exact .inr ⟨_,_,rfl⟩
theorem rec_others {o:ByteArray} (ho:∀ k,o≠namB k) (hf:o≠freshB) (d:Dk) (f:Int):hit o (recM d f).1.fs=hit o d.fs:=by
 unfold recM
 split
 · rfl
 · rcases recF_disk (fuelOf f) d f f [] f with e | ⟨k,s,e⟩
   · rw [e]
   · rw [e];exact cut_others ho hf d k s
theorem nd_rec {d:Dk} (h:Nd d.fs) (f:Int):Nd (recM d f).1.fs:=by
 unfold recM
 split
 · exact h
 · rcases recF_disk (fuelOf f) d f f [] f with e | ⟨k,s,e⟩
   · rw [e];exact h
   · rw [e];exact nd_cut h k s
theorem nd_crs {d:Dk} (h:Nd d.fs) (ks:List Int):Nd (crs d ks).fs:=by
 refine ⟨crs_uniq d ks h.uniq,?_⟩
 have e:(crs d ks).fs=d.fs.mapIdx (crf ks):=by
  show crl ks d.fs d.fs.length=_
  unfold crl;rw [List.take_length,List.drop_length,List.append_nil]
 rw [e]
 intro f hf
 obtain ⟨i,hi,rfl⟩:=List.getElem_of_mem hf
 rw [List.getElem_mapIdx]
 exact h.ok (d.fs[i]'(by simpa using hi)) (List.getElem_mem _)
def Base (d:Dk) (frm run:Int) (s0:Bm.Sta):Prop:=
  (run=0∧frm=1∧s0=⟨[],[]⟩∧(hit mB d.fs).2=false) ∨
  (runOk run∧hit mB d.fs=(⟨mB,manB frm run,⟨#[]⟩⟩,true)∧hit (rnamB run) d.fs=(⟨rnamB run,⟨(Rn.bytes (Bm.pairs s0)).toArray⟩,⟨#[]⟩⟩,true) ∧
    Rn.may (Bm.pairs s0)=true∧(Rn.bytes (Bm.pairs s0)).length≤65536∧Bm.cgs s0.toks)
theorem Base.keep {d d':Dk} {frm run:Int} {s0:Bm.Sta} (h:Base d frm run s0) (hm:hit mB d'.fs=hit mB d.fs) (hr:runOk run→hit (rnamB run) d'.fs=hit (rnamB run) d.fs):Base d' frm run s0:=by
 rcases h with ⟨h1,h2,h3,h4⟩ | ⟨h1,h2,h3,h4⟩
 · exact .inl ⟨h1,h2,h3,by rw [hm];exact h4⟩
 · exact .inr ⟨h1,by rw [hm];exact h2,by rw [hr h1];exact h3,h4⟩
theorem crs_whole {d:Dk} {nm s:ByteArray} (h:hit nm d.fs=(⟨nm,s,⟨#[]⟩⟩,true)) (ks:List Int):hit nm (crs d ks).fs=(⟨nm,s,⟨#[]⟩⟩,true):=by
 rcases hit_crs d ks nm with ⟨e,_⟩ | ⟨_,k,e⟩
 · rw [h] at e;cases e
 · rw [h] at e
   rw [e]
   have e1:(⟨#[]⟩:ByteArray).extract 0 k=⟨#[]⟩:=by ext1;simp
   have e2:∀ x:ByteArray,x++(⟨#[]⟩:ByteArray)=x:=fun x=>ByteArray.append_empty
   simp only [e1,e2]
theorem Base.crs {d:Dk} {frm run:Int} {s0:Bm.Sta} (h:Base d frm run s0) (ks:List Int):Base (crs d ks) frm run s0:=by
 rcases h with ⟨h1,h2,h3,h4⟩ | ⟨h1,h2,h3,h4⟩
 · refine .inl ⟨h1,h2,h3,?_⟩
   rcases hit_crs d ks mB with ⟨_,e⟩ | ⟨e,_⟩
   · exact e
   · rw [h4] at e;cases e
 · exact .inr ⟨h1,crs_whole h2 ks,crs_whole h3 ks,h4⟩
theorem red_whole {d:Dk} {nm s:ByteArray} (h:hit nm d.fs=(⟨nm,s,⟨#[]⟩⟩,true)):redd nm d.fs=(s,0):=by
 unfold redd
 have e2:∀ x:ByteArray,x++(⟨#[]⟩:ByteArray)=x:=fun x=>ByteArray.append_empty
 rw [h]
 simp only [e2,if_true]
theorem Base.opn {d:Dk} {frm run:Int} {s0:Bm.Sta} (h:Base d frm run s0) (hf:1≤frm∧frm≤1000000):begM d.fs=(frm,run,0)∧loadS d.fs run=(s0,0):=by
 rcases h with ⟨rfl,rfl,rfl,h4⟩ | ⟨h1,h2,h3,h4,h5,h6⟩
 · refine ⟨?_,rfl⟩
   unfold begM redd
   rw [h4];rfl
 · have hb:=rn_body (Bm.pairs s0)
   have hmx:(65536:Nat)≤Dm.maxU:=by decide
   refine ⟨?_,?_⟩
   · unfold begM
     rw [red_whole h2]
     simp only [ne_eq,not_true_eq_false,if_false]
     exact tman_man frm run hf.1 hf.2 (by have:=h1.1;omega) h1.2
   · have hl:Rn.loadM (rnamB run) d.fs=(Bm.pairs s0,0):=by
       unfold Rn.loadM
       rw [red_whole h3]
       simp only [ne_eq,not_true_eq_false,if_false]
       exact Rn.take_bytes _ _ h4 (by omega) (by omega)
     unfold loadS
     rw [if_neg (by have:=h1.1;omega),hl,Bm.back_pairs h6]
     simp
theorem Base.open_ {d:Dk} {frm run:Int} {s0:Bm.Sta} (h:Base d frm run s0) (hf:1≤frm∧frm≤1000000) {p:Dk×List (List UInt8)×Int×Int} (hr:recM d frm=p) :
    openM d=if p.2.2.2≠0 then (ks0,p.2.2.2) else endM frm run p (repM s0 p.2.1):=by
  obtain ⟨e1,e2⟩:=h.opn hf
  unfold openM opnA
  rw [e1]
  simp only [ne_eq,not_true_eq_false,if_false]
  unfold opnB
  rw [e2]
  simp only [ne_eq,not_true_eq_false,if_false]
  unfold opnC
  rw [hr]
structure Kl (N:Nat) (x:Ks):Prop where
  ki:Ki x
  off:x.down=false→x.d.off=false
  cg:Bm.cgs x.s.toks
  log:∃ w s0,Wb.In x.frm w∧w.d=x.d∧w.seg=x.seg∧(w.dead=true→x.down=true)∧w.safe=w.put.length∧repM s0 w.put=some x.s∧Base x.d x.frm x.run s0∧w.put.length≤N
theorem In.bnd {b:Int} {w:Lw} (h:Wb.In b w):1≤b∧b≤w.seg∧w.seg≤1000000:=by
 obtain ⟨rs,r,t,m,h1,h2,h3,h4,h5⟩:=h
 have:=h1.pos;have:=h1.top
 omega
theorem Kl.crash {N:Nat} {x:Ks} (h:Kl N x) (ks:List Int):(crsM x ks).2=5∨((crsM x ks).2=0∧(crsM x ks).1.s=x.s∧Kl N (crsM x ks).1∧openM (crsM x ks).1.d=crsM x ks∧(crsM x ks).1.down=false ∧
    (recM (crsM x ks).1.d (begM (crsM x ks).1.d.fs).1).2.1.length≤N∧(crsM x ks).1.d=(recM (crs x.d ks) x.frm).1):=by
  obtain ⟨w,s0,hI,hd,hseg,hdead,hsafe,hrep,hB,hN⟩:=h.log
  have hf:1≤x.frm∧x.frm≤1000000:=by have:=h.ki.f1;have:=h.ki.fs;have:=h.ki.s1;omega
  have hBc:=hB.crs ks
  have hnc:=nd_crs h.ki.nd ks
  have hc:=Wb.crash_in hI ks
  rw [hd] at hc
  have hnr:=nd_rec hnc x.frm
  have hm:=rec_others (nam_not hd_m (by decide)) (hd_ne (by rw [hd_m];decide)) (crs x.d ks) x.frm
  have hrn:runOk x.run→hit (rnamB x.run) (recM (crs x.d ks) x.frm).1.fs=hit (rnamB x.run) (crs x.d ks).fs:=fun hr =>
   rec_others (nam_not (hd_run hr) (by decide)) (hd_ne (by rw [hd_run hr];decide)) (crs x.d ks) x.frm
  have ho:=hBc.open_ hf rfl
  have hoff:=rec_off (d:=crs x.d ks) (f:=x.frm) rfl
  unfold crsM
  obtain ⟨p,hp⟩:∃ p,recM (crs x.d ks) x.frm=p:=⟨_,rfl⟩
  rw [hp] at hc hnr hm hrn ho hoff ⊢
  rcases hc with hc | ⟨c1,c2,c3,c4,c5⟩
  · left
    rw [ho,if_pos (by rw [hc];decide)]
    exact hc
  · right
    have hput:p.2.1=w.put:=c2.eq_of_length (by have:=c2.length_le;omega)
    rw [if_neg (by rw [c1];decide),hput,hrep] at ho
    have ho:openM (crs x.d ks)=(⟨p.1,x.frm,p.2.2.1,x.run,x.s,false⟩,0):=ho
    have hB2:=hBc.keep hm hrn
    have ho2:=hB2.open_ hf c4
    simp only [ne_eq,not_true_eq_false,if_false] at ho2
    rw [hput,hrep] at ho2
    have ho2:openM p.1=(⟨p.1,x.frm,p.2.2.1,x.run,x.s,false⟩,0):=ho2
    rw [ho]
    have hbd:=In.bnd c5
    simp only at hbd
    refine ⟨rfl,rfl,⟨⟨hnr,hf.1,hbd.2.1,hbd.2.2,h.ki.r0,h.ki.r1⟩,?_,h.cg,⟨_,s0,c5,rfl,rfl,fun e=>absurd (show false=true from e) (by decide),?_,?_,hB2,?_⟩⟩,ho2,rfl,?_,rfl⟩
    · exact fun _=>hoff (by rw [c1];decide)
    · show w.safe=p.2.1.length
      rw [hput];exact hsafe
    · show repM s0 p.2.1=some x.s
      rw [hput];exact hrep
    · show p.2.1.length≤N
      rw [hput];exact hN
    · show (recM p.1 (begM p.1.fs).1).2.1.length≤N
      rw [(hB2.opn hf).1]
      show (recM p.1 x.frm).2.1.length≤N
      rw [c4]
      show p.2.1.length≤N
      rw [hput];exact hN
theorem recF_err:∀ (n:Nat) (d:Dk) (f seg:Int) (rs:List (List UInt8)) (last:Int),(recF n d f seg rs last).2.2.2≠0→(recF n d f seg rs last).2.1=[]
  | 0,d,f,seg,rs,last,h=>absurd rfl h
  | n+1,d,f,seg,rs,last,h=>by
    revert h
    unfold recF
    split
    · exact fun h=>absurd rfl h
    split
    · exact fun h=>absurd rfl h
    split
    · exact recF_err n _ _ _ _ _
    split
    · exact fun _=>rfl
    · exact fun h=>absurd rfl h
theorem rec_err {d:Dk} {f:Int} (h:(recM d f).2.2.2≠0):(recM d f).2.1=[]:=by
 revert h
 unfold recM
 split
 · exact fun _=>rfl
 · exact recF_err _ _ _ _ _ _
theorem Kl.len {N:Nat} {x:Ks} (h:Kl N x) (ks:List Int):(recM (crs x.d ks) (begM (crs x.d ks).fs).1).2.1.length≤N:=by
 obtain ⟨w,s0,hI,hd,hseg,hdead,hsafe,hrep,hB,hN⟩:=h.log
 have hf:1≤x.frm∧x.frm≤1000000:=by have:=h.ki.f1;have:=h.ki.fs;have:=h.ki.s1;omega
 rw [((hB.crs ks).opn hf).1]
 show (recM (crs x.d ks) x.frm).2.1.length≤N
 have hc:=Wb.crash_in hI ks
 rw [hd] at hc
 rcases hc with hc | ⟨c1,c2,_⟩
 · rw [rec_err (by rw [hc];decide)];exact Nat.zero_le _
 · exact Nat.le_trans c2.length_le hN
theorem Kl.mono {N M:Nat} {x:Ks} (h:Kl N x) (hNM:N≤M):Kl M x:=by
 obtain ⟨w,s0,hI,hd,hseg,hdead,hsafe,hrep,hB,hN⟩:=h.log
 exact ⟨h.ki,h.off,h.cg,⟨w,s0,hI,hd,hseg,hdead,hsafe,hrep,hB,Nat.le_trans hN hNM⟩⟩
theorem Kl.arm {N:Nat} {x:Ks} (h:Kl N x) (fuse:Int):Kl N (armM x fuse):=by
 obtain ⟨w,s0,hI,hd,hseg,hdead,hsafe,hrep,hB,hN⟩:=h.log
 have hi:=h.ki
 exact ⟨⟨hi.nd,hi.f1,hi.fs,hi.s1,hi.r0,hi.r1⟩,h.off,h.cg,⟨_,s0,Wb.arm_in hI (armM x fuse).d (by rw [hd];rfl),rfl,hseg,hdead,hsafe,hrep,hB,hN⟩⟩
theorem com_six {x:Ks} {b:Bm.Bt} (h:(comM x b).2=6):(comM x b).1.down=true:=by
 unfold comM at h ⊢
 split
 · assumption
 rename_i h1
 rw [if_neg h1] at h
 split
 · rename_i h2
   rw [if_pos h2] at h
   exfalso
   unfold Bm.doo at h
   split at h
   · simp at h
   split at h
   · simp at h
   · simp at h
 rename_i h2
 rw [if_neg h2] at h
 unfold comA at h ⊢
 split
 · rename_i h3
   rw [if_pos h3] at h
   exact decide_eq_true h
 rename_i h3
 rw [if_neg h3] at h
 unfold comB at h ⊢
 split
 · rename_i h4
   rw [if_pos h4] at h
   exact decide_eq_true h
 · rename_i h4
   rw [if_neg h4] at h
   cases h
theorem cgs_doo {s:Bm.Sta} (b:Bm.Bt) (h:Bm.cgs s.toks):Bm.cgs (Bm.doo s b).1.toks:=by
 unfold Bm.doo
 split
 · exact h
 split
 · exact h
 · exact Bm.cgs_put _ h
theorem Kl.com {N:Nat} {x:Ks} (h:Kl N x) (b:Bm.Bt):Kl (N+1) (comM x b).1:=by
 have hki:=com_ki h.ki b
 obtain ⟨w,s0,hI,hd,hseg,hdead,hsafe,hrep,hB,hN⟩:=h.log
 have hoff:=h.off
 have hcg:=h.cg
 revert hki
 unfold comM
 split
 · exact fun _=>h.mono (Nat.le_succ _)
 rename_i hup
 have hup:x.down=false:=by simpa using hup
 split
 · exact fun _=>h.mono (Nat.le_succ _)
 rename_i hdo
 intro hki
 have hoff:=hoff hup
 have hdo:(Bm.doo x.s b).2=0:=by simpa using hdo
 obtain ⟨hmay,_⟩:=Bm.doo_ok hdo
 have hdead:w.dead=false:=by
  cases e:w.dead with
  | false=>rfl
  | true=>rw [hdead e] at hup;cases hup
 have hm:=putM_others (nam_not hd_m (by decide)) x.d x.seg (recB b)
 have hrn:runOk x.run→hit (rnamB x.run) (putM x.d x.seg (recB b)).1.fs=hit (rnamB x.run) x.d.fs:=fun hr=>putM_others (nam_not (hd_run hr) (by decide)) x.d x.seg (recB b)
 have hpo:=putM_off (seg:=x.seg) (r:=recB b) hoff
 have hP:=Wb.put_in hI (recB b)
 have hPd:(w.puts (recB b)).d=(putM x.d x.seg (recB b)).1∧(w.puts (recB b)).seg=(putM x.d x.seg (recB b)).2.1∧(w.puts (recB b)).put=(if (putM x.d x.seg (recB b)).2.2=0 then w.put++[(recB b).data.toList] else w.put)∧(w.puts (recB b)).safe=w.put.length∧(w.puts (recB b)).dead=decide ((putM x.d x.seg (recB b)).2.2=6):=by
  unfold Lw.puts
  rw [if_neg (by rw [hdead];decide),hd,hseg]
  refine ⟨rfl,rfl,rfl,?_,rfl⟩
  simp only
  split
  · rfl
  · exact hsafe
 generalize w.puts (recB b)=w1 at hP hPd
 obtain ⟨q1,q2,q3,q4,q5⟩:=hPd
 generalize putM x.d x.seg (recB b)=p at hki hm hrn hpo q1 q2 q3 q5 ⊢
 have hB1:Base p.1 x.frm x.run s0:=hB.keep hm hrn
 unfold comA at hki ⊢
 split
 · rename_i he
   rw [if_pos he] at hki
   rw [if_neg he] at q3
   refine ⟨hki,fun e=>hpo (by simpa [Ks.bad] using e),hcg,⟨w1,s0,hP,q1,q2,fun e=>by rw [q5] at e;exact e,by rw [q4,q3],by rw [q3];exact hrep,hB1,by rw [q3];omega⟩⟩
 · rename_i he
   rw [if_neg he] at hki
   have he:p.2.2=0:=by simpa using he
   rw [if_pos he] at q3
   have hpo:=hpo (by rw [he];decide)
   have hS:=Wb.sync_in hP
   have hpu:Uniq p.1.fs:=by
    rw [←q1]
    obtain ⟨rs,r,t,m,h1,_⟩:=hP
    exact h1.uniq
   have hs0:(syncM p.1 p.2.1).2=0∧(syncM p.1 p.2.1).1.off=false:=by
    unfold syncM
    split
    · rename_i hh
      refine ⟨?_,syn_off hpo⟩
      unfold syn
      rw [hpo,hh];rfl
    · exact ⟨rfl,hpo⟩
   have hm2:=syncM_others (nam_not hd_m (by decide)) p.1 p.2.1
   have hrn2:runOk x.run→hit (rnamB x.run) (syncM p.1 p.2.1).1.fs=hit (rnamB x.run) p.1.fs:=fun hr=>syncM_others (nam_not (hd_run hr) (by decide)) p.1 p.2.1
   have hB2:Base (syncM p.1 p.2.1).1 x.frm x.run s0:=hB1.keep hm2 hrn2
   have q5:w1.dead=false:=by rw [q5,he];rfl
   have hSd:w1.syncs.d=(syncM p.1 p.2.1).1∧w1.syncs.seg=p.2.1∧w1.syncs.put=w1.put∧w1.syncs.safe=w1.put.length∧w1.syncs.dead=false:=by
    unfold Lw.syncs
    rw [q1,q2]
    refine ⟨rfl,rfl,rfl,?_,q5⟩
    simp only
    rw [if_pos ⟨hs0.1,q5⟩]
   generalize w1.syncs=w2 at hS hSd
   obtain ⟨r1,r2,r3,r4,r5⟩:=hSd
   unfold comB at hki ⊢
   rw [if_neg (by rw [hs0.1];simp)] at hki ⊢
   refine ⟨hki,fun _=>hs0.2,cgs_doo b hcg,⟨w2,s0,hS,r1,r2,fun e=>absurd (r5.symm.trans e) (by decide),by rw [r4,r3],?_,hB2,by rw [r3,q3,List.length_append];simp only [List.length_singleton];omega⟩⟩
   rw [r3,q3,repM_snoc,hrep,Option.bind_some,repK,rec_take hmay,if_neg (by simp)]
theorem new_log {d:Dk} {b:Int} (hu:Uniq d.fs) (hb:1≤b) (hb2:b≤1000000) (hno:∀ k,b≤k→segOk k→(hit (namB k) d.fs).2=false):Wb.In b ⟨d,b,[],0,false⟩:=by
 have hd:=hit_def (hno b (Int.le_refl _) ⟨hb,hb2⟩)
 refine ⟨[],[],[],0,⟨hu,hb,by simpa using hb2,fun i hi=>by simp at hi,fun k hk hs=>hno k (by simp at hk;omega) hs,fun x hx=>by simp at hx,fun x hx=>by simp at hx,Part.nil,by simp,by simp [flat_nil],.inl ⟨?_,rfl,rfl⟩,?_,?_⟩,by simp,rfl,by simp,fun _=>rfl⟩
 · simpa using hno b (Int.le_refl _) ⟨hb,hb2⟩
 · simp [hd,flat_nil]
 · simp [flat_nil]
theorem rnam_inj {a b:Int} (ha:runOk a) (hb:runOk b) (h:rnamB a=rnamB b):a=b:=by
 rw [rnamB_ok ha,rnamB_ok hb] at h
 have h0:=congrArg (fun x:ByteArray=>x.data.toList) h
 have h0:(114 :: Dm.dg a.toNat:List UInt8)=114 :: Dm.dg b.toNat:=h0
 have h1:=congrArg Dm.val (List.cons.inj h0).2
 rw [Dm.val_dg,Dm.val_dg] at h1
 have h2:=ha.1;have h3:=hb.1
 omega
theorem Kl.chk {N:Nat} {x:Ks} (h:Kl N x):Kl N (chkM x).1:=by
 obtain ⟨w,s0,hI,hd,hseg,hdead,hsafe,hrep,hB,hN⟩:=h.log
 have hoff:=h.off
 have hcg:=h.cg
 have hki:=h.ki
 unfold chkM
 split
 · exact h
 rename_i hup
 have hup:x.down=false:=by simpa using hup
 have hoff:=hoff hup
 have hdead:w.dead=false:=by
  cases e:w.dead with
  | false=>rfl
  | true=>rw [hdead e] at hup;cases hup
 split
 · exact h
 rename_i c2
 split
 · exact h
 rename_i c3
 have hf1:=hki.f1;have hfs:=hki.fs;have hs1:=hki.s1;have hr0:=hki.r0
 have hA:∀ (d':Dk) (down':Bool),Nd d'.fs→(down'=false→d'.off=false)→(∀ k,segOk k→hit (namB k) d'.fs=hit (namB k) x.d.fs)→hit mB d'.fs=hit mB x.d.fs→(runOk x.run→hit (rnamB x.run) d'.fs=hit (rnamB x.run) x.d.fs) →
     Kl N ⟨d',x.frm,x.seg,x.run,x.s,down'⟩:=fun d' down' hn ho ha hm hr =>
   ⟨⟨hn,hki.f1,hki.fs,hki.s1,hki.r0,hki.r1⟩,ho,hcg,⟨{ w with d:=d' },s0,hI.keep d' hn.uniq (by rw [hd];exact ha),rfl,hseg,fun e=>absurd (hdead.symm.trans e) (by decide),hsafe,hrep,hB.keep hm hr,hN⟩⟩
 have hmay:Rn.may (Bm.pairs x.s)=true:=by
  cases hm:Rn.may (Bm.pairs x.s) with
  | true=>rfl
  | false=>unfold rbM at c3;rw [hm] at c3;simp at c3
 have hrb:rbM (Bm.pairs x.s)=(Rn.bytes (Bm.pairs x.s),0):=by unfold rbM;rw [if_pos hmay]
 rw [hrb]
 have r1:runOk (x.run+1):=by unfold runOk;omega
 have hr1:=hd_run r1
 have hnr:∀ k,segOk k→namB k≠rnamB (x.run+1):=fun k hk=>hd_ne (by rw [nam_hd hk,hr1];decide)
 have hnf:∀ (b:ByteArray) k,segOk k→namB k≠Rn.freshB b:=fun b k hk=>hd_ne (by rw [nam_hd hk,hd_fresh];decide)
 have hnm:∀ k,segOk k→namB k≠mB:=fun k hk=>hd_ne (by rw [nam_hd hk,hd_m];decide)
 have hmr:∀ n,mB≠rnamB n:=fun n=>by
  by_cases hn:runOk n
  · exact hd_ne (by rw [hd_m,hd_run hn];decide)
  · exact hd_ne (by rw [hd_m,rnamB_no hn];decide)
 have hmf:∀ b,mB≠Rn.freshB b:=fun b=>hd_ne (by rw [hd_m,hd_fresh];decide)
 have hrf:∀ b n,runOk n→rnamB n≠Rn.freshB b:=fun b n hn=>hd_ne (by rw [hd_run hn,hd_fresh];decide)
 have hrr:rnamB (x.run+1)≠rnamB x.run:=by
  by_cases hn:runOk x.run
  · intro e
    have:=rnam_inj r1 hn e
    omega
  · exact hd_ne (by rw [hr1,rnamB_no hn];decide)
 have p1:=nd_lay hki.nd (rnamB (x.run+1)) ⟨(Rn.bytes (Bm.pairs x.s)).toArray⟩
 have p2:∀ k,segOk k→hit (namB k) (Rn.lay x.d (rnamB (x.run+1)) ⟨(Rn.bytes (Bm.pairs x.s)).toArray⟩).1.fs=hit (namB k) x.d.fs:=fun k hk=>Rn.lay_others (hnr k hk) (hnf _ k hk)
 have p3:hit mB (Rn.lay x.d (rnamB (x.run+1)) ⟨(Rn.bytes (Bm.pairs x.s)).toArray⟩).1.fs=hit mB x.d.fs:=Rn.lay_others (hmr _) (hmf _)
 have p7:runOk x.run→hit (rnamB x.run) (Rn.lay x.d (rnamB (x.run+1)) ⟨(Rn.bytes (Bm.pairs x.s)).toArray⟩).1.fs=hit (rnamB x.run) x.d.fs:=fun hr=>Rn.lay_others hrr.symm (hrf _ _ hr)
 have p4:=Rn.lay_hit (d:=x.d) (nm:=rnamB (x.run+1)) (s:=⟨(Rn.bytes (Bm.pairs x.s)).toArray⟩) hki.nd.uniq
 have p8:=lay_off (nm:=rnamB (x.run+1)) (s:=⟨(Rn.bytes (Bm.pairs x.s)).toArray⟩) hoff
 simp only
 generalize Rn.lay x.d (rnamB (x.run+1)) ⟨(Rn.bytes (Bm.pairs x.s)).toArray⟩=p at p1 p2 p3 p4 p7 p8 ⊢
 unfold chkA
 split
 · exact hA p.1 _ p1 (fun e=>p8 (by simpa using e)) p2 p3 p7
 rename_i c4
 have c4:p.2=0:=by simpa using c4
 obtain ⟨p5,p6⟩:=p4 c4
 have p8:=p8 (by rw [c4];decide)
 have q1:=nd_lay p1 mB (manB (x.seg+1) (x.run+1))
 have q2:∀ k,segOk k→hit (namB k) (Rn.lay p.1 mB (manB (x.seg+1) (x.run+1))).1.fs=hit (namB k) x.d.fs:=fun k hk=>by rw [Rn.lay_others (hnm k hk) (hnf _ k hk),p2 k hk]
 have q3:∀ n,runOk n→hit (rnamB n) (Rn.lay p.1 mB (manB (x.seg+1) (x.run+1))).1.fs=hit (rnamB n) p.1.fs:=fun n hn=>Rn.lay_others (hmr _).symm (hrf _ _ hn)
 have q4:=Rn.lay_hit (d:=p.1) (nm:=mB) (s:=manB (x.seg+1) (x.run+1)) p1.uniq
 have q5:=Rn.lay_apart (d:=p.1) (nm:=mB) (s:=manB (x.seg+1) (x.run+1))
 have q8:=lay_off (nm:=mB) (s:=manB (x.seg+1) (x.run+1)) p8
 generalize Rn.lay p.1 mB (manB (x.seg+1) (x.run+1))=q at q1 q2 q3 q4 q5 q8 ⊢
 unfold chkB
 split
 · rename_i c5
   exact hA q.1 _ q1 (fun e=>q8 (by simpa using e)) q2 ((q5 c5).trans p3) (fun hr=>(q3 _ hr).trans (p7 hr))
 rename_i c5
 have c5:q.2=0:=by simpa using c5
 obtain ⟨q6,_⟩:=q4 c5
 have q8:=q8 (by rw [c5];decide)
 have z0:=nd_swp q1 x.run x.frm (x.seg+1)
 have z1:hit mB (swpM q.1 x.run x.frm (x.seg+1)).1.fs=hit mB q.1.fs:=swp_others (hmr _) (nam_not hd_m (by decide))
 have z2:hit (rnamB (x.run+1)) (swpM q.1 x.run x.frm (x.seg+1)).1.fs=hit (rnamB (x.run+1)) q.1.fs:=swp_others hrr (nam_not hr1 (by decide))
 have z3:∀ k,x.seg+1≤k→segOk k→(hit (namB k) (swpM q.1 x.run x.frm (x.seg+1)).1.fs).2=false:=fun k hk hs=>swp_keep (by rw [q2 _ hs,←hd];exact hI.above (by omega) hs)
 have z8:=swp_off (run:=x.run) (frm:=x.frm) (til:=x.seg+1) q8
 generalize swpM q.1 x.run x.frm (x.seg+1)=z at z0 z1 z2 z3 z8 ⊢
 have hB2:Base z.1 (x.seg+1) (x.run+1) x.s:=.inr ⟨r1,by rw [z1,q6],by rw [z2,q3 _ r1,p5],hmay,p6,hcg⟩
 have hL:Wb.In (x.seg+1) ⟨z.1,x.seg+1,[],0,false⟩:=new_log z0.uniq (by omega) (by omega) z3
 have hend:∀ down':Bool,(down'=false→z.1.off=false)→Kl N ⟨z.1,x.seg+1,x.seg+1,x.run+1,x.s,down'⟩:=fun down' ho =>
  ⟨⟨z0,by show 1≤x.seg+1;omega,Int.le_refl _,by show x.seg+1≤1000000;omega,by show 0≤x.run+1;omega,by show x.run+1≤1000000;omega⟩,ho,hcg,⟨_,x.s,hL,rfl,rfl,fun e=>absurd (show false=true from e) (by decide),rfl,repM_nil _,hB2,Nat.zero_le _⟩⟩
 unfold chkC
 split
 · exact hend _ (fun e=>z8 (by simpa using e))
 · rename_i c6
   have c6:z.2=0:=by simpa using c6
   exact hend _ (fun _=>z8 (by rw [c6];decide))
theorem open_kl (room:Int):Kl 0 (openM ⟨[],room,-1,false⟩).1:=by
 rw [open_new]
 have hu:Uniq ([]:List Fil):=fun i j hi=>by simp at hi
 exact ⟨⟨Nd.nil_,Int.le_refl _,Int.le_refl _,by show (1:Int)≤1000000;decide,Int.le_refl _,by show (0:Int)≤1000000;decide⟩,fun _=>rfl,fun p hp=>(by cases hp),
   ⟨⟨⟨[],room,-1,false⟩,1,[],0,false⟩,⟨[],[]⟩,new_log hu (Int.le_refl _) (show (1:Int)≤1000000 by decide) (fun k _ _=>rfl),rfl,rfl,fun e=>absurd (show false=true from e) (by decide),rfl,repM_nil _,.inl ⟨rfl,rfl,rfl,rfl⟩,Nat.le_refl _⟩⟩
end Km
end
section
open Go.RowKit
variable {α:Type}
def Apt (A B:Option Addr):Prop:=∀ a b,A=some a→B=some b→a.block≠b.block
theorem OwnK.away {K:Kind α} {w w':World} {base:Nat} {A B:Option Addr} {n c m d:Nat} {l:List α} (h:OwnK K w base B m d l) (hg:w.grownBy w' (Value.slice A n c).ownBlock) (hap:Apt A B) (hA:A=none→True):OwnK K w' base B m d l:=by
 refine ⟨h.1,?_⟩
 rcases h.2 with ⟨e,h0⟩ | ⟨g,cap,cur,e,hg2,hh,r⟩
 · exact .inl ⟨e,h0⟩
 · refine .inr ⟨g,cap,cur,e,hg2,(hg.block g (Array.getElem?_eq_some_iff.1 hh).1 ?_).trans hh,r⟩
   intro e2
   injection e with e
   cases A with
   | none=>cases e2
   | some a =>
     simp only [Value.ownBlock,Option.some.injEq] at e2
     exact hap a ⟨g,0,none⟩ rfl e e2.symm
theorem Apt.symm {A B:Option Addr} (h:Apt A B):Apt B A:=fun a b ea eb e=>h b a eb ea e.symm
end
section
open Go.ChangeShapes Go.WideShapes Go.RowKit Prm
namespace Bm
def st (bl:List Bt) (j:Nat):Sta:=(bl.take j).foldl (fun s b=>(doo s b).1) ⟨[],[]⟩
theorem st_succ (bl:List Bt) {j:Nat} (h:j<bl.length):st bl (j+1)=(doo (st bl j) bl[j]).1:=by
 unfold st;rw [List.take_succ_eq_append_getElem h,List.foldl_append];rfl
def short (l:List Pr):Prop:=∀ p∈l,p.key.size≤32
theorem short_put {l:List Pr} {p:Pr} (h:short l) (hp:p.key.size≤32):short (put l p):=fun q hq=>by
 rcases mem_put hq with rfl | hq
 · exact hp
 · exact h q hq
theorem short_act {l:List Pr} {x:Wr} (h:short l) (hx:x.key.size≤32):short (act l x):=by
 unfold act
 split
 · exact fun q hq=>h q (List.mem_filter.1 hq).1
 · exact short_put h hx
theorem short_apply (ws:List Wr):∀ {l:List Pr},short l→(∀ x∈ws,x.key.size≤32)→short (apply l ws):=by
 induction ws with
 | nil=>intro l h _;exact h
 | cons x ws ih=>intro l h hw;exact ih (l:=act l x) (short_act h (hw x (by simp))) fun y hy=>hw y (by simp [hy])
theorem short_doo {s:Sta} (b:Bt) (h:short s.data∧short s.toks):short (doo s b).1.data∧short (doo s b).1.toks:=by
 unfold doo
 split
 · exact h
 · rename_i h1
   have hm:may b=true:=by simpa using h1
   split
   · exact h
   · exact ⟨short_apply _ h.1 fun x hx=>(wrong_not ((may_ok hm).2 x hx)).2.1,short_put h.2 (by have:=(may_tok hm).2;simp only;omega)⟩
theorem short_low {l:List Pr} (h:short l):∀ p∈l,p.key.size≤4611686018427387904:=fun p hp=>by have:=h p hp;omega
end Bm
section
variable {w wi wj:World} {g:Nat} {P R P' R':Option Addr} {pc rc pc' rc':Nat} {s s':Bm.Sta}
end
end
section
open Dkm Prm Wm Du Wl
namespace Km
theorem Bnd.drpK {B:Nat}:∀ (n:Nat) {d:Dk} (s til:Int),Bnd B d→Bnd B (drpF n d s til).1
  | 0,d,s,til,h=>h
  | n + 1,d,s,til,h=>by
    unfold drpF
    split
    · split
      · split
        · exact h.del _
        · exact Bnd.drpK n _ _ (h.del _)
      · exact Bnd.drpK n _ _ h
    · exact h
theorem Bnd.swpK {B:Nat} {d:Dk} (h:Bnd B d) (run frm til:Int):Bnd B (swpM d run frm til).1:=by
 unfold swpM swpB
 have e:Bnd B (if (hit (rnamB run) d.fs).2=true then del d (rnamB run) else (d,(0:Int))).1:=by
  split
  · exact h.del _
  · exact h
 generalize (if (hit (rnamB run) d.fs).2=true then del d (rnamB run) else (d,(0:Int)))=x at e ⊢
 split
 · exact e
 · exact Bnd.drpK _ _ _ e
theorem Bnd.chkK {B:Nat} {x:Ks} (h:Bnd B x.d) (hB:65536≤B):Bnd B (chkM x).1.d:=by
 unfold chkM
 split
 · exact h
 split
 · exact h
 split
 · exact h
 have h1:=Wm.Bnd.lay h hB (rnamB (x.run+1)) ⟨(rbM (Bm.pairs x.s)).1.toArray⟩
 generalize Rn.lay x.d (rnamB (x.run+1)) ⟨(rbM (Bm.pairs x.s)).1.toArray⟩=p at h1 ⊢
 unfold chkA
 split
 · exact h1
 have h2:=Wm.Bnd.lay h1 hB mB (manB (x.seg+1) (x.run+1))
 generalize Rn.lay p.1 mB (manB (x.seg+1) (x.run+1))=q at h2 ⊢
 unfold chkB
 split
 · exact h2
 have h3:=Bnd.swpK h2 x.run x.frm (x.seg+1)
 unfold chkC
 split
 · exact h3
 · exact h3
theorem Bnd.armK {B:Nat} {x:Ks} (h:Bnd B x.d) {fuse:Int} (hf:In64 fuse):Bnd B (armM x fuse).d:=by
 refine ⟨h.sum,h.few,h.room,?_⟩
 show In64 (max fuse (-1))
 obtain ⟨a,b⟩:=hf
 constructor<;>omega
theorem st_snoc (l:List Bm.Bt) (b:Bm.Bt) (n:Nat) (h:n≤l.length):Bm.st (l++[b]) n=Bm.st l n:=by
 unfold Bm.st
 rw [List.take_append_of_le_length h]
theorem st_more (l:List Bm.Bt) (b:Bm.Bt):Bm.st (l++[b]) (l.length+1)=(Bm.doo (Bm.st l l.length) b).1:=by
 have h:=Bm.st_succ (l++[b]) (j:=l.length) (by simp)
 rw [h,st_snoc l b _ (Nat.le_refl _)]
 simp
theorem st_take (l:List Bm.Bt) (n:Nat) (h:n≤l.length):Bm.st (l.take n) n=Bm.st l n:=by
 unfold Bm.st
 rw [List.take_take,Nat.min_self]
structure Kz (N:Nat) (x:Ks) (all:List Bm.Bt) (sure:Nat):Prop where
  kl:Kl N x
  st:x.s=Bm.st all sure
  le:sure=all.length∨(sure+1=all.length∧x.down=true)
theorem Kz.sure_le {N:Nat} {x:Ks} {all:List Bm.Bt} {sure:Nat} (h:Kz N x all sure):sure≤all.length:=by
 rcases h.le with e | ⟨e,_⟩<;>omega
theorem com_down {x:Ks} (b:Bm.Bt) (h:x.down=true):comM x b=(x,6):=by
 unfold comM;rw [if_pos h]
theorem Kz.ok {N:Nat} {x:Ks} {all:List Bm.Bt} {sure:Nat} (h:Kz N x all sure) (b:Bm.Bt) (h0:(comM x b).2=0):Kz (N+1) (comM x b).1 (all++[b]) (all.length+1):=by
 have hup:x.down=false:=by
  cases e:x.down with
  | false=>rfl
  | true=>rw [com_down b e] at h0;cases h0
 have hs:sure=all.length:=by
  rcases h.le with e | ⟨_,e⟩
  · exact e
  · rw [hup] at e;cases e
 obtain ⟨_,e⟩:=comM_ok h0
 refine ⟨h.kl.com b,?_,.inl (by simp)⟩
 rw [e,st_more,h.st,hs]
theorem Kz.dead {N:Nat} {x:Ks} {all:List Bm.Bt} {sure:Nat} (h:Kz N x all sure) (b:Bm.Bt) (h6:(comM x b).2=6) (hup:x.down=false):Kz (N+1) (comM x b).1 (all++[b]) sure:=by
 have hs:sure=all.length:=by
  rcases h.le with e | ⟨_,e⟩
  · exact e
  · rw [hup] at e;cases e
 refine ⟨h.kl.com b,?_,.inr ⟨by simp [hs],com_six h6⟩⟩
 rw [comM_bad (by rw [h6];decide),h.st,st_snoc _ _ _ (by omega)]
theorem Kz.no {N:Nat} {x:Ks} {all:List Bm.Bt} {sure:Nat} (h:Kz N x all sure) (b:Bm.Bt) (h0:(comM x b).2≠0):Kz (N+1) (comM x b).1 all sure:=by
 refine ⟨h.kl.com b,by rw [comM_bad h0];exact h.st,?_⟩
 rcases h.le with e | ⟨e,hd⟩
 · exact .inl e
 · exact .inr ⟨e,by rw [com_down b hd];exact hd⟩
theorem Kz.chk {N:Nat} {x:Ks} {all:List Bm.Bt} {sure:Nat} (h:Kz N x all sure):Kz N (chkM x).1 all sure:=by
 refine ⟨h.kl.chk,by rw [chk_state];exact h.st,?_⟩
 rcases h.le with e | ⟨e,hd⟩
 · exact .inl e
 · refine .inr ⟨e,?_⟩
   unfold chkM
   rw [if_pos hd];exact hd
theorem Kz.arm {N:Nat} {x:Ks} {all:List Bm.Bt} {sure:Nat} (h:Kz N x all sure) (fuse:Int):Kz N (armM x fuse) all sure:=⟨h.kl.arm fuse,h.st,h.le⟩
theorem Kz.crash {N:Nat} {x:Ks} {all:List Bm.Bt} {sure:Nat} (h:Kz N x all sure) (ks:List Int) (h0:(crsM x ks).2≠5) :
    (crsM x ks).2=0∧Kz N (crsM x ks).1 (all.take sure) sure∧(crsM x ks).1.s=Bm.st all sure∧openM (crsM x ks).1.d=crsM x ks:=by
  rcases h.kl.crash ks with e | ⟨c1,c2,c3,c4,c5,c6,c7⟩
  · exact absurd e h0
  · refine ⟨c1,⟨c3,by rw [c2,h.st,st_take _ _ h.sure_le],.inl ?_⟩,c2.trans h.st,c4⟩
    have:=h.sure_le
    rw [List.length_take];omega
theorem Kz.new_ (room:Int):Kz 0 (openM ⟨[],room,-1,false⟩).1 [] 0:=⟨open_kl room,by rw [open_new];rfl,.inl rfl⟩
end Km
end
section
open Dkm Prm Wm Du Wl
namespace Km
structure Kc (N:Nat) (x:Ks):Prop where
  kn:Kn N x
  kl:Kl N x
  bnd:Bnd 2097152 x.d
theorem Kc.com {N:Nat} {x:Ks} (h:Kc N x) (b:Bm.Bt):Kc (N+1) (comM x b).1:=⟨(h.kn.com b).1,h.kl.com b,Bnd.com h.bnd (by omega) b⟩
theorem Kc.new_ {room:Int} (hr:In64 room):Kc 0 (openM ⟨[],room,-1,false⟩).1:=
  ⟨open_kn room,open_kl room,by rw [open_new];exact ⟨fun f hf=>(by cases hf),(by show 0*48≤140737488355328;omega),hr,⟨by show (-9223372036854775808:Int)≤-1;decide,by show (-1:Int)≤9223372036854775807;decide⟩⟩⟩
theorem Kc.chk {N:Nat} {x:Ks} (h:Kc N x) {fuse:Int} (hf:In64 fuse) (ks:List Int) :
    (chkM (armM x fuse)).1.s=x.s∧(crsM (chkM (armM x fuse)).1 ks).2=0∧(crsM (chkM (armM x fuse)).1 ks).1.s=x.s ∧
    Bnd 2097152 (armM x fuse).d∧Bnd 2097152 (chkM (armM x fuse)).1.d ∧
    (recM (crs (chkM (armM x fuse)).1.d ks) (begM (crs (chkM (armM x fuse)).1.d ks).fs).1).2.1.length≤N:=by
  obtain ⟨h1,h2⟩:=chk_crash h.kn h.kl.ki h.kl.cg fuse ks
  have hb:=Bnd.armK h.bnd hf
  exact ⟨chk_state _,h1,h2,hb,Bnd.chkK hb (by omega),(h.kl.arm fuse).chk.len ks⟩
end Km
end
end Go.Proofs.YtajidconlmhjfaaGreatDoor
