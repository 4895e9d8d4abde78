/- KvMath, DiskApart, DiskWhole, DiskUniq, DiskNd, KvRunM, WalLastM, WalLastR, WalLastI, KvOnceM, KvErr, Tab: merged. -/
import Derived.Test.YtajidconlmhjfaaGreatDoorR4
import Derived.Test.YtajidconlmhjfaaGreatDoorR5
import Derived.Test.YtajidconlmhjfaaGreatDoorR2
import Derived.LaidEql
import Derived.Stop.Asserts
import Derived.RowKitTokens
import Derived.Stop.LaidTwo
import Derived.Test.YtajidconlmhjfaaGreatDoorR1
import Derived.Lib.LaidTab
import Derived.Lib.AppendIntMem
set_option linter.unusedVariables false
set_option linter.unusedSimpArgs false
set_option maxRecDepth 100000
namespace Go.Proofs.YtajidconlmhjfaaGreatDoor
section
open Dkm Prm
namespace Km
structure Ks where
  d:Dk
  frm:Int
  seg:Int
  run:Int
  s:Bm.Sta
  down:Bool
def ks0:Ks:=⟨⟨[],0,0,false⟩,0,0,0,⟨[],[]⟩,false⟩
def runOk (n:Int):Prop:=1≤n∧n≤1000000
instance (n:Int):Decidable (runOk n):=by unfold runOk;infer_instance
def rnam (n:Int):List UInt8:=if runOk n then 114 :: Dm.dg n.toNat else []
def rnamB (n:Int):ByteArray:=⟨(rnam n).toArray⟩
def mB:ByteArray:=⟨#[109]⟩
def manL (f r:Int):List UInt8:=sld (Dm.num f.toNat++Dm.num r.toNat)
def manB (f r:Int):ByteArray:=⟨(manL f r).toArray⟩
def numA (s:List UInt8):Nat:=(Dm.tnum (topen s s.length).1).1
def numB (s:List UInt8):Nat:=(Dm.tnum (Dm.tnum (topen s s.length).1).2.1).1
def tman (s:List UInt8):Int×Int×Int:=
  if 1≤numA s∧numA s≤1000000∧numB s≤1000000∧s=manL (numA s:Int) (numB s:Int) then ((numA s:Int),(numB s:Int),0) else (0,0,3)
def begM (l:List Fil):Int×Int×Int:=if (redd mB l).2≠0 then (1,0,0) else tman (redd mB l).1.data.toList
def loadS (l:List Fil) (n:Int):Bm.Sta×Int:=
  if n=0 then (⟨[],[]⟩,0)
  else if (Rn.loadM (rnamB n) l).2≠0 then (⟨[],[]⟩,3)
  else if (Bm.back (Rn.loadM (rnamB n) l).1).2≠0 then (⟨[],[]⟩,3)
  else ((Bm.back (Rn.loadM (rnamB n) l).1).1,0)
def repM:Bm.Sta→List (List UInt8)→Option Bm.Sta
  | s,[]=>some s
  | s,r :: rs=>if (Bm.take r).2≠0 then none else repM (Bm.doo s (Bm.take r).1).1 rs
def endM (frm run:Int) (r:Dk×List (List UInt8)×Int×Int):Option Bm.Sta→Ks×Int
  | none=>(ks0,3)
  | some s=>(⟨r.1,frm,r.2.2.1,run,s,false⟩,0)
def opnC (frm run:Int) (s:Bm.Sta) (r:Dk×List (List UInt8)×Int×Int):Ks×Int:=if r.2.2.2≠0 then (ks0,r.2.2.2) else endM frm run r (repM s r.2.1)
def opnB (d:Dk) (frm run:Int) (s:Bm.Sta×Int):Ks×Int:=if s.2≠0 then (ks0,3) else opnC frm run s.1 (Wm.recM d frm)
def opnA (d:Dk) (x:Int×Int×Int):Ks×Int:=if x.2.2≠0 then (ks0,3) else opnB d x.1 x.2.1 (loadS d.fs x.2.1)
def openM (d:Dk):Ks×Int:=opnA d (begM d.fs)
def recB (b:Bm.Bt):ByteArray:=⟨(Bm.bytesM b).1.toArray⟩
def Ks.bad (x:Ks) (d:Dk) (e:Int):Ks×Int:=({ x with d:=d,down:=decide (e=6) },e)
def comB (x:Ks) (s':Bm.Sta) (q:Dk×Int):Ks×Int:=if q.2≠0 then x.bad q.1 q.2 else ({ x with d:=q.1,s:=s' },0)
def comA (x:Ks) (s':Bm.Sta) (p:Dk×Int×Int):Ks×Int:=
  if p.2.2≠0 then ({ x with seg:=p.2.1 }:Ks).bad p.1 p.2.2 else comB { x with d:=p.1,seg:=p.2.1 } s' (Wm.syncM p.1 p.2.1)
def comM (x:Ks) (b:Bm.Bt):Ks×Int:=
  if x.down=true then (x,6)
  else if (Bm.doo x.s b).2≠0 then (x,((Bm.doo x.s b).2:Int))
  else comA x (Bm.doo x.s b).1 (Wm.putM x.d x.seg (recB b))
def drpF:Nat→Dk→Int→Int→Dk×Int
  | 0,d,_,_=>(d,0)
  | n + 1,d,seg,til =>
    if seg<til∧seg≤1000000 then
      (if (hit (namB seg) d.fs).2 then (if (del d (namB seg)).2≠0 then del d (namB seg) else drpF n (del d (namB seg)).1 (seg+1) til) else drpF n d (seg+1) til)
    else (d,0)
def drpM (d:Dk) (frm til:Int):Dk×Int:=drpF 1000001 d (max frm 1) til
def swpB (x:Dk×Int) (frm til:Int):Dk×Int:=if x.2≠0 then x else drpM x.1 frm til
def swpM (d:Dk) (run frm til:Int):Dk×Int:=swpB (if (hit (rnamB run) d.fs).2 then del d (rnamB run) else (d,0)) frm til
def chkC (x:Ks) (q:Dk×Int):Ks×Int:=
  if q.2≠0 then x.bad q.1 q.2 else ({ x with d:=q.1 },0)
def chkB (x:Ks) (q:Dk×Int):Ks×Int:=
  if q.2≠0 then x.bad q.1 q.2 else chkC { x with frm:=x.seg+1,seg:=x.seg+1,run:=x.run+1 } (swpM q.1 x.run x.frm (x.seg+1))
def chkA (x:Ks) (q:Dk×Int):Ks×Int:=
  if q.2≠0 then x.bad q.1 q.2 else chkB x (Rn.lay q.1 mB (manB (x.seg+1) (x.run+1)))
def rbM (l:List Pr):List UInt8×Int:=if Rn.may l then (Rn.bytes l,0) else ([],1)
def chkM (x:Ks):Ks×Int:=
  if x.down=true then (x,6)
  else if 1000000≤x.seg∨1000000≤x.run then (x,5)
  else if (rbM (Bm.pairs x.s)).2≠0 then (x,(rbM (Bm.pairs x.s)).2)
  else chkA x (Rn.lay x.d (rnamB (x.run+1)) ⟨(rbM (Bm.pairs x.s)).1.toArray⟩)
def crsM (x:Ks) (ks:List Int):Ks×Int:=openM (crs x.d ks)
def armM (x:Ks) (fuse:Int):Ks:={ x with d:=⟨x.d.fs,x.d.room,max fuse (-1),x.d.off⟩ }
theorem manL_nums (f r:Int) (h1:1≤f) (h2:f≤1000001) (h3:0≤r) (h4:r≤1000001):numA (manL f r)=f.toNat∧numB (manL f r)=r.toNat:=by
 have hlen:(Dm.num f.toNat++Dm.num r.toNat).length≤(manL f r).length:=by
  unfold manL sld;simp;omega
 have e:topen (manL f r) (manL f r).length=(Dm.num f.toNat++Dm.num r.toNat,[],0):=by
  have h1:=Dm.num_length f.toNat (by omega)
  have h2:=Dm.num_length r.toNat (by omega)
  have h3:(Dm.num f.toNat++Dm.num r.toNat).length≤42:=by rw [List.length_append];omega
  have:=topen_sld (Dm.num f.toNat++Dm.num r.toNat) [] (manL f r).length (by unfold Dm.maxU;omega) (by omega)
  rw [List.append_nil] at this
  exact this
 have e1:Dm.tnum (Dm.num f.toNat++Dm.num r.toNat)=(f.toNat,Dm.num r.toNat,0):=Dm.tnum_num _ _ (by unfold Dm.maxU;omega)
 have e2:Dm.tnum (Dm.num r.toNat)=(r.toNat,[],0):=by
  have:=Dm.tnum_num r.toNat [] (by unfold Dm.maxU;omega)
  rwa [List.append_nil] at this
 unfold numA numB
 rw [e]
 simp only [e1,e2,and_self]
theorem tman_man (f r:Int) (h1:1≤f) (h2:f≤1000000) (h3:0≤r) (h4:r≤1000000):tman (manL f r)=(f,r,0):=by
 obtain ⟨a,b⟩:=manL_nums f r h1 (by omega) h3 (by omega)
 have e1:((f.toNat:Nat):Int)=f:=by omega
 have e2:((r.toNat:Nat):Int)=r:=by omega
 unfold tman
 rw [a,b,e1,e2,if_pos ⟨by omega,by omega,by omega,rfl⟩]
theorem rnamB_ok {n:Int} (h:runOk n):rnamB n=⟨(114 :: Dm.dg n.toNat).toArray⟩:=by unfold rnamB rnam;rw [if_pos h]
theorem rnamB_no {n:Int} (h:¬ runOk n):rnamB n=⟨#[]⟩:=by unfold rnamB rnam;rw [if_neg h]
theorem rnamB_size (n:Int):(rnamB n).size≤8:=by
 by_cases h:runOk n
 · rw [rnamB_ok h]
   have:=namB_ok (a:=n) h
   rw [namB_size,nam_ok h] at this
   show (114 :: Dm.dg n.toNat).toArray.size≤8
   simpa using this.2
 · rw [rnamB_no h];show (0:Nat)≤8;omega
end Km
end
section
open Go.RowKit Dkm
namespace Dkm
theorem find_mid (o:ByteArray) (a b:List Fil) (f g:Fil) (hf:f.nm≠o) (hg:g.nm≠o):(a++f :: b).find? (fun x=>decide (x.nm=o))=(a++g :: b).find? (fun x=>decide (x.nm=o)):=by
 simp [List.find?_append,hf,hg]
theorem find_del (o:ByteArray) (a b:List Fil) (f:Fil) (hf:f.nm≠o):(a++f :: b).find? (fun x=>decide (x.nm=o))=(a++b).find? (fun x=>decide (x.nm=o)):=by
 simp [List.find?_append,hf]
theorem hit_set {o:ByteArray} {l:List Fil} {k:Nat} {g:Fil} (hk:k<l.length) (h1:l[k].nm≠o) (h2:g.nm≠o):hit o (l.set k g)=hit o l:=by
 have e1:l.set k g=l.take k++g :: l.drop (k+1):=List.set_eq_take_append_cons_drop.trans (by rw [if_pos hk])
 have e2:l=l.take k++l[k] :: l.drop (k+1):=by rw [←List.drop_eq_getElem_cons hk,List.take_append_drop]
 have:(l.set k g).find? (fun x=>decide (x.nm=o))=l.find? (fun x=>decide (x.nm=o)):=by
  rw [e1];conv=>rhs;rw [e2]
  exact find_mid o _ _ _ _ h2 h1
 unfold hit;rw [this]
theorem hit_erase {o:ByteArray} {l:List Fil} {k:Nat} (hk:k<l.length) (h1:l[k].nm≠o):hit o (l.eraseIdx k)=hit o l:=by
 have e2:l=l.take k++l[k] :: l.drop (k+1):=by rw [←List.drop_eq_getElem_cons hk,List.take_append_drop]
 have:(l.eraseIdx k).find? (fun x=>decide (x.nm=o))=l.find? (fun x=>decide (x.nm=o)):=by
  rw [List.eraseIdx_eq_take_drop_succ];conv=>rhs;rw [e2]
  exact (find_del o _ _ _ h1).symm
 unfold hit;rw [this]
theorem hit_snoc {o:ByteArray} {l:List Fil} {g:Fil} (h:g.nm≠o):hit o (l++[g])=hit o l:=by
 have:(l++[g]).find? (fun x=>decide (x.nm=o))=l.find? (fun x=>decide (x.nm=o)):=by simp [List.find?_append,h]
 unfold hit;rw [this]
theorem appd_apart {o nm s:ByteArray} (d:Dk) (h:o≠nm):hit o (appd d nm s).1.fs=hit o d.fs:=by
 unfold appd
 split;rfl
 split;rfl
 split;rfl
 split;rfl
 show hit o (put _ _ _)=_
 rcases plc_cases nm d.fs with ⟨_,hall⟩ | ⟨k,hk,_,hkn,hfirst⟩
 · rw [opn_none hall];unfold put;rw [if_pos rfl];exact hit_snoc (fun e=>h e.symm)
 · rw [opn_at hk hkn hfirst];unfold put;simp only
   rw [if_neg (by omega)]
   exact hit_set hk (fun e=>h (e.symm.trans hkn)) (fun e=>h (e.symm.trans hkn))
theorem syn_apart {o nm:ByteArray} (d:Dk) (h:o≠nm):hit o (syn d nm).1.fs=hit o d.fs:=by
 obtain ⟨l,room,fuse,off⟩:=d
 cases off
 · rcases plc_cases nm l with ⟨hp,hall⟩ | ⟨k,hk,hp,hkn,hfirst⟩
   · rw [syn_none hall]
   · rw [syn_at hk hkn hfirst]
     exact hit_set hk (fun e=>h (e.symm.trans hkn)) (fun e=>h (e.symm.trans hkn))
 · rfl
theorem lss_apart {o:ByteArray} (d:Dk) {k:Nat} (hk:k<d.fs.length) (h:d.fs[k].nm≠o):hit o (lss d k).fs=hit o d.fs:=hit_erase hk h
theorem del_apart {o nm:ByteArray} (d:Dk) (h:o≠nm):hit o (del d nm).1.fs=hit o d.fs:=by
 unfold del
 split;rfl
 split;rfl
 split;rw [pow_fs]
 rename_i _ h2 _
 rcases plc_cases nm d.fs with ⟨_,hall⟩ | ⟨k,hk,_,hkn,hfirst⟩
 · rw [hit_none hall] at h2;exact absurd rfl h2
 · rw [opn_at hk hkn hfirst]
   have e:=pow_fs d
   exact (lss_apart (pow d).1 (k:=k) (by rw [e];exact hk) (by simp only [e];exact fun e=>h (e.symm.trans hkn))).trans (by rw [e])
theorem nmd_apart {o tu:ByteArray} (d:Dk) {k:Nat} (hk:k<d.fs.length) (h:d.fs[k].nm≠o) (h2:tu≠o):hit o (nmd d k tu).fs=hit o d.fs:=hit_set hk h h2
theorem nmd_name (d:Dk) (k q:Nat) (tu:ByteArray) (hq:q<(nmd d k tu).fs.length) (hq2:q<d.fs.length) (h:d.fs[q].nm=tu):(nmd d k tu).fs[q].nm=tu:=by
 unfold nmd at hq ⊢
 simp only [List.getElem_set]
 split
 · rfl
 · exact h
theorem ren_apart {o fr tu:ByteArray} (d:Dk) (h1:o≠fr) (h2:o≠tu):hit o (ren d fr tu).1.fs=hit o d.fs:=by
 unfold ren
 split;rfl
 split;rfl
 split;rfl
 split;rfl
 split;rw [pow_fs]
 rename_i _ _ h3 _ _
 have e:=pow_fs d
 rcases plc_cases fr d.fs with ⟨_,hall⟩ | ⟨k,hk,_,hkn,hfirst⟩
 · rw [hit_none hall] at h3;exact absurd rfl h3
 have hk':k<(pow d).1.fs.length:=by rw [e];exact hk
 have hn:hit o (nmd (pow d).1 k tu).fs=hit o d.fs:=by
  rw [nmd_apart (pow d).1 hk' (by simp only [e];exact fun x=>h1 (x.symm.trans hkn)) (fun x=>h2 x.symm),e]
 rw [opn_at hk hkn hfirst]
 split
 · rename_i h5
   rcases plc_cases tu d.fs with ⟨_,hall⟩ | ⟨q,hq,_,hqn,hqf⟩
   · rw [hit_none hall] at h5;cases h5
   rw [opn_at hq hqn hqf]
   have hq':q<(nmd (pow d).1 k tu).fs.length:=by rw [nmd_len,e];exact hq
   rw [lss_apart _ hq' ?_,hn]
   have:(nmd (pow d).1 k tu).fs[q].nm=tu:=nmd_name (pow d).1 k q tu hq' (by rw [e];exact hq) (by simp only [e];exact hqn)
   rw [this];exact fun x=>h2 x.symm
 · exact hn
end Dkm
end
section
open Go.RowKit Dkm
namespace Dkm
def Uniq (l:List Fil):Prop:=∀ i j,∀ hi:i<l.length,∀ hj:j<l.length,l[i].nm=l[j].nm→i=j
theorem ren_bad (d:Dk) (fr tu:ByteArray) (h:(ren d fr tu).2≠0):(ren d fr tu).1.fs=d.fs∧(ren d fr tu).1.room=d.room:=by
 unfold ren at *
 have hp:=pow_fs d
 have hr:(pow d).1.room=d.room:=by unfold pow;split;rfl;split<;>rfl
 repeat' split at h
 all_goals (try (exact absurd rfl h))
 all_goals simp_all
theorem find_none {l:List Fil} {nm:ByteArray} (hu:∀ j,∀ hj:j<l.length,l[j].nm≠nm):redd nm l=(⟨#[]⟩,7):=
  redd_none (fun f hf=>by obtain ⟨i,hi,rfl⟩:=List.getElem_of_mem hf;exact hu i hi)
end Dkm
end
section
open Dkm
namespace Du
theorem uniq_pw (l:List Fil):Uniq l↔l.Pairwise fun a b=>a.nm≠b.nm:=by
 rw [List.pairwise_iff_getElem]
 constructor
 · intro h i j hi hj hij e
   have:=h i j hi hj e;omega
 · intro h i j hi hj e
   rcases Nat.lt_trichotomy i j with hlt | he | hlt
   · exact absurd e (h i j hi hj hlt)
   · exact he
   · exact absurd e.symm (h j i hj hi hlt)
theorem uniq_erase {l:List Fil} (h:Uniq l) (k:Nat):Uniq (l.eraseIdx k):=(uniq_pw _).2 (((uniq_pw _).1 h).sublist (List.eraseIdx_sublist l k))
theorem erase_gone {l:List Fil} (hu:Uniq l) {k:Nat} (hk:k<l.length) {nm:ByteArray} (hn:l[k].nm=nm):∀ f∈l.eraseIdx k,f.nm≠nm:=by
 intro f hf e
 obtain ⟨i,hi,hne,rfl⟩:=List.mem_eraseIdx_iff_getElem.1 hf
 exact hne (hu i k hi hk (e.trans hn.symm))
theorem uniq_snoc {l:List Fil} (hu:Uniq l) {f:Fil} (hf:∀ g∈l,g.nm≠f.nm):Uniq (l++[f]):=by
 rw [uniq_pw,List.pairwise_append]
 exact ⟨(uniq_pw _).1 hu,by simp,fun a ha b hb=>by simp at hb;subst hb;exact hf a ha⟩
theorem uniq_names {l m:List Fil} (h:Uniq l) (e:m.map Fil.nm=l.map Fil.nm):Uniq m:=by
 have hl:m.length=l.length:=by have:=congrArg List.length e;simpa using this
 intro i j hi hj hn
 have g:∀ k (hk:k<m.length),m[k].nm=(l[k]'(by omega)).nm:=fun k hk=>by
  have:=congrArg (fun x:List ByteArray=>x[k]?) e
  simp only [List.getElem?_map,List.getElem?_eq_getElem hk,List.getElem?_eq_getElem (show k<l.length by omega),Option.map_some,Option.some.injEq] at this
  exact this
 exact h i j (by omega) (by omega) (by rw [←g i hi,←g j hj];exact hn)
theorem uniq_set {l:List Fil} (h:Uniq l) {k:Nat} {f:Fil} (hk:k<l.length) (hf:f.nm=l[k].nm):Uniq (l.set k f):=by
 refine uniq_names h ?_
 rw [List.map_set,hf]
 have e:(l.map Fil.nm)[k]'(by simpa using hk)=l[k].nm:=by simp
 rw [←e,List.set_getElem_self]
theorem hit_some {nm:ByteArray} {l:List Fil} (h:(hit nm l).2=true):∃ k,∃ hk:k<l.length,l[k].nm=nm∧(∀ j,∀ h:j<l.length,j<k→l[j].nm≠nm)∧hit nm l=(l[k],true)∧opn nm l=(l[k],k):=by
 rcases plc_cases nm l with ⟨_,hall⟩ | ⟨k,hk,_,hkn,hf⟩
 · rw [hit_none hall] at h;cases h
 · exact ⟨k,hk,hkn,hf,hit_at hk hkn hf,opn_at hk hkn hf⟩
theorem hit_no {nm:ByteArray} {l:List Fil} (h:(hit nm l).2=false):∀ f∈l,f.nm≠nm:=by
 rcases plc_cases nm l with ⟨_,hall⟩ | ⟨k,hk,_,hkn,hf⟩
 · exact hall
 · rw [hit_at hk hkn hf] at h;cases h
theorem hit_setk {nm:ByteArray} {l:List Fil} {k:Nat} {f:Fil} (hk:k<l.length) (hn:f.nm=nm) (hf:∀ j,∀ h:j<l.length,j<k→l[j].nm≠nm):hit nm (l.set k f)=(f,true):=by
 have hk':k<(l.set k f).length:=by simpa using hk
 have:=hit_at (nm:=nm) (l:=l.set k f) hk' (by rw [List.getElem_set_self];exact hn) (fun j h hj=>by rw [List.getElem_set_ne (by omega)];exact hf j (by simpa using h) hj)
 rw [this,List.getElem_set_self]
theorem hit_end {nm:ByteArray} {l:List Fil} {f:Fil} (hn:f.nm=nm) (hf:∀ g∈l,g.nm≠nm):hit nm (l++[f])=(f,true):=by
 have hk:l.length<(l++[f]).length:=by simp
 have:=hit_at (nm:=nm) (l:=l++[f]) hk (by simpa using hn) (fun j h hj=>by rw [List.getElem_append_left hj];exact hf _ (List.getElem_mem hj))
 rw [this];simp
theorem appd_cases (d:Dk) (nm s:ByteArray) (hu:Uniq d.fs):((appd d nm s).1=d∧((appd d nm s).2=6∧d.off=true∨(appd d nm s).2=1∧nmOk nm=false∨(appd d nm s).2=5∨(appd d nm s).2=4∧65536<(hit nm d.fs).1.sf.size+(hit nm d.fs).1.wt.size+s.size)) ∨
    ((appd d nm s).2=(if short d.fuse s then 6 else 0)∧Uniq (appd d nm s).1.fs∧hit nm (appd d nm s).1.fs=(⟨nm,(hit nm d.fs).1.sf,(hit nm d.fs).1.wt++cut d.fuse s⟩,true)):=by
  have hopn:(opn nm d.fs).1.sf=(hit nm d.fs).1.sf∧(opn nm d.fs).1.wt=(hit nm d.fs).1.wt∧(opn nm d.fs).1.nm=nm:=by
   rcases plc_cases nm d.fs with ⟨_,hall⟩ | ⟨k,hk,_,hkn,hf⟩
   · rw [opn_none hall,hit_none hall];exact ⟨rfl,rfl,rfl⟩
   · rw [opn_at hk hkn hf,hit_at hk hkn hf];exact ⟨rfl,rfl,hkn⟩
  unfold appd
  split
  · rename_i h;exact .inl ⟨rfl,.inl ⟨rfl,h⟩⟩
  · split
    · rename_i h;exact .inl ⟨rfl,.inr (.inl ⟨rfl,h⟩)⟩
    · split
      · exact .inl ⟨rfl,.inr (.inr (.inl rfl))⟩
      · split
        · rename_i h;rw [hopn.1,hopn.2.1] at h;exact .inl ⟨rfl,.inr (.inr (.inr ⟨rfl,h⟩))⟩
        · refine .inr ⟨rfl,?_⟩
          rw [hopn.1,hopn.2.1,hopn.2.2]
          simp only
          rcases plc_cases nm d.fs with ⟨_,hall⟩ | ⟨k,hk,_,hkn,hf⟩
          · rw [opn_none hall]
            unfold put
            rw [if_pos rfl]
            exact ⟨uniq_snoc hu hall,hit_end rfl hall⟩
          · rw [opn_at hk hkn hf]
            unfold put
            rw [if_neg (by simp only;omega)]
            exact ⟨uniq_set hu hk hkn.symm,hit_setk hk rfl hf⟩
theorem syn_cases (d:Dk) (nm:ByteArray) (hu:Uniq d.fs):((syn d nm).1=d∧((syn d nm).2=6∧d.off=true∨(syn d nm).2=7∧(hit nm d.fs).2=false)) ∨
    ((syn d nm).2=0∧d.off=false∧(hit nm d.fs).2=true∧Uniq (syn d nm).1.fs∧hit nm (syn d nm).1.fs=(⟨nm,(hit nm d.fs).1.sf++(hit nm d.fs).1.wt,⟨#[]⟩⟩,true)):=by
  unfold syn
  split
  · rename_i h;exact .inl ⟨rfl,.inl ⟨rfl,h⟩⟩
  · rename_i h0
    split
    · rename_i h
      refine .inr ⟨rfl,by simpa using h0,h,?_⟩
      obtain ⟨k,hk,hn,hf,e1,e2⟩:=hit_some h
      rw [e1,e2]
      exact ⟨uniq_set hu hk rfl,by rw [hn];exact hit_setk hk rfl hf⟩
    · rename_i h;exact .inl ⟨rfl,.inr ⟨rfl,by simpa using h⟩⟩
theorem del_on (d:Dk) (nm:ByteArray) (hu:Uniq d.fs) (h1:d.off=false) (h2:d.fuse<0) (h3:(hit nm d.fs).2=true):(del d nm).2=0∧Uniq (del d nm).1.fs∧(hit nm (del d nm).1.fs).2=false∧(del d nm).1.off=false∧(del d nm).1.fuse<0:=by
 have hp:pow d=(d,true):=by unfold pow;rw [if_neg (by omega),if_neg (by omega)]
 obtain ⟨k,hk,hn,hf,e1,e2⟩:=hit_some h3
 unfold del
 rw [hp,h1,h3,e2]
 simp only [Bool.false_eq_true,if_false,reduceCtorEq]
 refine ⟨trivial,uniq_erase hu k,?_,h1,h2⟩
 show (hit nm (d.fs.eraseIdx k)).2=false
 rw [hit_none (erase_gone hu hk hn)]
theorem hit_crs (d:Dk) (ks:List Int) (nm:ByteArray):((hit nm d.fs).2=false∧(hit nm (crs d ks).fs).2=false)∨((hit nm d.fs).2=true∧∃ k,hit nm (crs d ks).fs=(⟨nm,(hit nm d.fs).1.sf++(hit nm d.fs).1.wt.extract 0 k,⟨#[]⟩⟩,true)):=by
 have e:(crs d ks).fs=d.fs.mapIdx (crf ks):=by
  show crl ks d.fs d.fs.length=_
  unfold crl;rw [List.take_length,List.drop_length,List.append_nil]
 rw [e]
 rcases plc_cases nm d.fs with ⟨_,hall⟩ | ⟨k,hk,_,hkn,hf⟩
 · refine .inl ⟨by rw [hit_none hall],?_⟩
   rw [hit_none]
   intro f hfm
   obtain ⟨i,hi,rfl⟩:=List.getElem_of_mem hfm
   rw [List.getElem_mapIdx]
   exact hall (d.fs[i]'(by simpa using hi)) (List.getElem_mem _)
 · have hk':k<(d.fs.mapIdx (crf ks)).length:=by simpa using hk
   refine .inr ⟨by rw [hit_at hk hkn hf],kp ks k d.fs[k],?_⟩
   rw [hit_at hk hkn hf,hit_at hk' (by rw [List.getElem_mapIdx];exact hkn) (fun j hj hjk=>by rw [List.getElem_mapIdx];exact hf j (by simpa using hj) hjk),List.getElem_mapIdx]
   unfold crf
   rw [hkn]
theorem crs_uniq (d:Dk) (ks:List Int) (hu:Uniq d.fs):Uniq (crs d ks).fs:=by
 have e:(crs d ks).fs=d.fs.mapIdx (crf ks):=by
  show crl ks d.fs d.fs.length=_
  unfold crl;rw [List.take_length,List.drop_length,List.append_nil]
 rw [e]
 intro i j hi hj he
 rw [List.getElem_mapIdx,List.getElem_mapIdx] at he
 exact hu i j (by simpa using hi) (by simpa using hj) he
theorem ren_on (d:Dk) (fr tu:ByteArray) (hu:Uniq d.fs) (h1:d.off=false) (h2:d.fuse<0) (h3:(hit fr d.fs).2=true) (hn:nmOk tu=true) (hne:fr≠tu):(ren d fr tu).2=0∧Uniq (ren d fr tu).1.fs∧hit tu (ren d fr tu).1.fs=(⟨tu,(hit fr d.fs).1.sf,(hit fr d.fs).1.wt⟩,true)∧(ren d fr tu).1.off=false∧(ren d fr tu).1.fuse<0:=by
 have hp:pow d=(d,true):=by unfold pow;rw [if_neg (by omega),if_neg (by omega)]
 obtain ⟨k,hk,hkn,hf,e1,e2⟩:=hit_some h3
 have hfk:d.fs.getD k ⟨⟨#[]⟩,⟨#[]⟩,⟨#[]⟩⟩=d.fs[k]:=by simp [hk]
 unfold ren
 rw [hp,h1,h3,hn,if_neg hne,e2]
 simp only [Bool.false_eq_true,if_false,reduceCtorEq]
 rw [e1]
 cases ht:(hit tu d.fs).2 with
 | false =>
   simp only [Bool.false_eq_true,if_false]
   have hall:=hit_no ht
   refine ⟨trivial,?_,?_,h1,h2⟩
   · show Uniq (d.fs.set k _)
     rw [hfk,uniq_pw,List.pairwise_iff_getElem]
     intro i j hi hj hij
     simp only [List.length_set] at hi hj
     rw [List.getElem_set,List.getElem_set]
     split
     · rename_i hki
       rw [if_neg (by omega)]
       exact fun e=>hall d.fs[j] (List.getElem_mem hj) e.symm
     · split
       · exact hall _ (List.getElem_mem hi)
       · exact fun e=>by have:=hu i j hi hj e;omega
   · show hit tu (d.fs.set k _)=_
     rw [hfk]
     exact hit_setk hk rfl (fun j h _=>hall _ (List.getElem_mem h))
 | true =>
   simp only [if_true]
   obtain ⟨q,hq,hqn,hqf,f1,f2⟩:=hit_some ht
   rw [f2]
   have hqk:q≠k:=by rintro rfl;exact hne (hkn.symm.trans hqn)
   have hnm:(nmd d k tu).fs=d.fs.set k ⟨tu,d.fs[k].sf,d.fs[k].wt⟩:=by unfold nmd;rw [hfk]
   refine ⟨trivial,?_,?_,h1,h2⟩
   · show Uniq ((nmd d k tu).fs.eraseIdx q)
     rw [hnm,uniq_pw,List.pairwise_iff_getElem]
     intro i j hi hj hij
     rw [List.getElem_eraseIdx,List.getElem_eraseIdx]
     have hl:(d.fs.set k ⟨tu,d.fs[k].sf,d.fs[k].wt⟩).length=d.fs.length:=by simp
     rw [List.length_eraseIdx] at hi hj
     have key:∀ a b (ha:a<(d.fs.set k ⟨tu,d.fs[k].sf,d.fs[k].wt⟩).length) (hb:b<(d.fs.set k ⟨tu,d.fs[k].sf,d.fs[k].wt⟩).length),a≠q→b≠q→a≠b→(d.fs.set k ⟨tu,d.fs[k].sf,d.fs[k].wt⟩)[a].nm≠(d.fs.set k ⟨tu,d.fs[k].sf,d.fs[k].wt⟩)[b].nm:=by
      intro a b ha hb haq hbq hab
      rw [hl] at ha hb
      rw [List.getElem_set,List.getElem_set]
      split
      · rw [if_neg (by omega)]
        intro e
        exact hbq (hu b q hb hq (e.symm.trans hqn.symm))
      · split
        · intro e
          exact haq (hu a q ha hq (e.trans hqn.symm))
        · exact fun e=>hab (hu a b ha hb e)
     split
     · split
       · exact key i j _ _ (by omega) (by omega) (by omega)
       · exact key i (j+1) _ _ (by omega) (by omega) (by omega)
     · split
       · exact key (i+1) j _ _ (by omega) (by omega) (by omega)
       · exact key (i+1) (j+1) _ _ (by omega) (by omega) (by omega)
   · show hit tu ((nmd d k tu).fs.eraseIdx q)=_
     rw [hnm]
     have hmem:(⟨tu,d.fs[k].sf,d.fs[k].wt⟩:Fil)∈(d.fs.set k ⟨tu,d.fs[k].sf,d.fs[k].wt⟩).eraseIdx q:=by
      rw [List.mem_eraseIdx_iff_getElem]
      exact ⟨k,by simpa using hk,fun e=>hqk e.symm,by simp⟩
     obtain ⟨p,hp2,he⟩:=List.getElem_of_mem hmem
     have hothers:∀ f∈(d.fs.set k ⟨tu,d.fs[k].sf,d.fs[k].wt⟩).eraseIdx q,f.nm=tu→f=⟨tu,d.fs[k].sf,d.fs[k].wt⟩:=by
      intro f hfm hft
      obtain ⟨i,hi,hne2,rfl⟩:=List.mem_eraseIdx_iff_getElem.1 hfm
      simp only [List.length_set] at hi
      rw [List.getElem_set] at hft ⊢
      split
      · rfl
      · rename_i hik
        rw [if_neg hik] at hft
        exact absurd (hu i q hi hq (hft.trans hqn.symm)) hne2
     rcases plc_cases tu ((d.fs.set k ⟨tu,d.fs[k].sf,d.fs[k].wt⟩).eraseIdx q) with ⟨_,hall⟩ | ⟨r,hr,_,hrn,hrf⟩
     · exact absurd rfl (hall _ hmem)
     · rw [hit_at hr hrn hrf,hothers _ (List.getElem_mem hr) hrn]
end Du
end
section
open Dkm Du
structure Nd (l:List Fil):Prop where
  uniq:Uniq l
  ok:∀ f∈l,nmOk f.nm=true
theorem Nd.nil_:Nd []:=⟨fun i j hi=>by simp at hi,by simp⟩
theorem nd_erase {l:List Fil} (h:Nd l) (k:Nat):Nd (l.eraseIdx k):=⟨uniq_erase h.uniq k,fun f hf=>h.ok f (List.mem_of_mem_eraseIdx hf)⟩
theorem nd_set {l:List Fil} (h:Nd l) {k:Nat} {f:Fil} (hk:k<l.length) (hf:f.nm=l[k].nm):Nd (l.set k f):=⟨uniq_set h.uniq hk hf,fun g hg=>by
 rcases List.mem_or_eq_of_mem_set hg with hg | rfl
 · exact h.ok g hg
 · rw [hf];exact h.ok _ (List.getElem_mem hk)⟩
theorem pow_fs_ (d:Dk):(pow d).1.fs=d.fs:=by unfold pow;split<;>(try split)<;>rfl
theorem nd_appd {d:Dk} (h:Nd d.fs) (nm s:ByteArray):Nd (appd d nm s).1.fs:=by
 unfold appd
 split
 · exact h
 split
 · exact h
 rename_i hn
 split
 · exact h
 split
 · exact h
 have hn':nmOk nm=true:=by simpa using hn
 show Nd (Dkm.put d.fs _ _)
 unfold Dkm.put
 rcases plc_cases nm d.fs with ⟨_,hall⟩ | ⟨k,hk,_,hkn,hf⟩
 · rw [opn_none hall]
   simp only [if_true]
   exact ⟨uniq_snoc h.uniq hall,fun g hg=>by
    rcases List.mem_append.1 hg with hg | hg
    · exact h.ok g hg
    · rw [List.mem_singleton] at hg;subst hg;exact hn'⟩
 · rw [opn_at hk hkn hf,if_neg (by simp only;omega)]
   exact nd_set h hk rfl
theorem nd_syn {d:Dk} (h:Nd d.fs) (nm:ByteArray):Nd (syn d nm).1.fs:=by
 unfold syn
 split
 · exact h
 split
 · rename_i hh
   obtain ⟨k,hk,hkn,hf,e1,e2⟩:=hit_some (nm:=nm) (l:=d.fs) hh
   show Nd (d.fs.set _ _)
   rw [e2,e1]
   exact nd_set h hk rfl
 · exact h
theorem nd_del {d:Dk} (h:Nd d.fs) (nm:ByteArray):Nd (del d nm).1.fs:=by
 unfold del
 split
 · exact h
 split
 · exact h
 split
 · rw [pow_fs_];exact h
 · show Nd ((pow d).1.fs.eraseIdx _)
   rw [pow_fs_];exact nd_erase h _
theorem nd_ren {d:Dk} (h:Nd d.fs) (fr tu:ByteArray):Nd (ren d fr tu).1.fs:=by
 unfold ren
 split
 · exact h
 split
 · exact h
 rename_i hn
 split
 · exact h
 rename_i h3
 split
 · exact h
 rename_i hne
 split
 · rw [pow_fs_];exact h
 have hn':nmOk tu=true:=by simpa using hn
 have hu:=h.uniq
 obtain ⟨k,hk,hkn,hf,e1,e2⟩:=hit_some (nm:=fr) (l:=d.fs) (by simpa using h3)
 have hfk:d.fs.getD k ⟨⟨#[]⟩,⟨#[]⟩,⟨#[]⟩⟩=d.fs[k]:=by simp [hk]
 have hnm:(nmd (pow d).1 (opn fr d.fs).2 tu).fs=d.fs.set k ⟨tu,d.fs[k].sf,d.fs[k].wt⟩:=by
  unfold nmd;rw [pow_fs_,e2,hfk]
 cases ht:(hit tu d.fs).2 with
 | false =>
   simp only [Bool.false_eq_true,if_false]
   have hall:=hit_no ht
   rw [hnm]
   refine ⟨?_,fun g hg=>?_⟩
   · rw [uniq_pw,List.pairwise_iff_getElem]
     intro i j hi hj hij
     simp only [List.length_set] at hi hj
     rw [List.getElem_set,List.getElem_set]
     split
     · rw [if_neg (by omega)]
       exact fun e=>hall d.fs[j] (List.getElem_mem hj) e.symm
     · split
       · exact hall _ (List.getElem_mem hi)
       · exact fun e=>by have:=hu i j hi hj e;omega
   · rcases List.mem_or_eq_of_mem_set hg with hg | rfl
     · exact h.ok g hg
     · exact hn'
 | true =>
   simp only [if_true]
   obtain ⟨q,hq,hqn,hqf,f1,f2⟩:=hit_some ht
   show Nd ((nmd (pow d).1 (opn fr d.fs).2 tu).fs.eraseIdx _)
   rw [hnm,f2]
   have hqk:q≠k:=by rintro rfl;exact hne (hkn.symm.trans hqn)
   refine ⟨?_,fun g hg=>?_⟩
   · rw [uniq_pw,List.pairwise_iff_getElem]
     intro i j hi hj hij
     rw [List.getElem_eraseIdx,List.getElem_eraseIdx]
     have hl:(d.fs.set k ⟨tu,d.fs[k].sf,d.fs[k].wt⟩).length=d.fs.length:=by simp
     rw [List.length_eraseIdx] at hi hj
     have key:∀ a b (ha:a<(d.fs.set k ⟨tu,d.fs[k].sf,d.fs[k].wt⟩).length) (hb:b<(d.fs.set k ⟨tu,d.fs[k].sf,d.fs[k].wt⟩).length),a≠q→b≠q→a≠b→(d.fs.set k ⟨tu,d.fs[k].sf,d.fs[k].wt⟩)[a].nm≠(d.fs.set k ⟨tu,d.fs[k].sf,d.fs[k].wt⟩)[b].nm:=by
      intro a b ha hb haq hbq hab
      rw [hl] at ha hb
      rw [List.getElem_set,List.getElem_set]
      split
      · rw [if_neg (by omega)]
        intro e
        exact hbq (hu b q hb hq (e.symm.trans hqn.symm))
      · split
        · intro e
          exact haq (hu a q ha hq (e.trans hqn.symm))
        · exact fun e=>hab (hu a b ha hb e)
     split
     · split
       · exact key i j _ _ (by omega) (by omega) (by omega)
       · exact key i (j+1) _ _ (by omega) (by omega) (by omega)
     · split
       · exact key (i+1) j _ _ (by omega) (by omega) (by omega)
       · exact key (i+1) (j+1) _ _ (by omega) (by omega) (by omega)
   · rcases List.mem_or_eq_of_mem_set (List.mem_of_mem_eraseIdx hg) with hg | rfl
     · exact h.ok g hg
     · exact hn'
theorem del_gone {d:Dk} (h:Uniq d.fs) {nm:ByteArray} (h0:(del d nm).2=0):(hit nm (del d nm).1.fs).2=false:=by
 unfold del at h0 ⊢
 split at h0
 · simp at h0
 rename_i h1
 split at h0
 · simp at h0
 rename_i h2
 split at h0
 · simp at h0
 rename_i h3
 rw [if_neg h1,if_neg h2,if_neg h3]
 obtain ⟨k,hk,hkn,_,_,e2⟩:=hit_some (nm:=nm) (l:=d.fs) (by simpa using h2)
 show (hit nm ((pow d).1.fs.eraseIdx _)).2=false
 rw [pow_fs_,e2]
 simp only
 rw [hit_none (erase_gone h hk hkn)]
theorem nd_putM {d:Dk} (h:Nd d.fs) (seg:Int) (r:ByteArray):Nd (Wm.putM d seg r).1.fs:=by
 unfold Wm.putM
 split
 · exact h
 split
 · exact h
 unfold Wm.putB
 split
 · exact nd_appd h _ _
 split
 · exact nd_syn h _
 split
 · exact nd_syn h _
 · exact nd_appd (nd_syn h _) _ _
theorem nd_syncM {d:Dk} (h:Nd d.fs) (seg:Int):Nd (Wm.syncM d seg).1.fs:=by
 unfold Wm.syncM
 split
 · exact nd_syn h _
 · exact h
end
section
open Dkm Prm Du Wm
theorem del_sub (d:Dk) (nm:ByteArray):∀ f∈(del d nm).1.fs,f∈d.fs:=by
 intro f hf
 unfold del at hf
 split at hf
 · exact hf
 split at hf
 · exact hf
 split at hf
 · rw [pow_fs_] at hf;exact hf
 · have h2:f∈(pow d).1.fs.eraseIdx (opn nm d.fs).2:=hf
   rw [pow_fs_] at h2
   exact List.mem_of_mem_eraseIdx h2
theorem del_keep {d:Dk} {nm o:ByteArray} (h:(hit o d.fs).2=false):(hit o (del d nm).1.fs).2=false:=by
 rw [hit_none (fun f hf=>hit_no h f (del_sub d nm f hf))]
namespace Km
theorem drp_keep {o:ByteArray}:∀ (n:Nat) (d:Dk) (s til:Int),(hit o d.fs).2=false→(hit o (drpF n d s til).1.fs).2=false
  | 0,d,s,til,h=>h
  | n + 1,d,s,til,h=>by
    unfold drpF
    split
    · split
      · split
        · exact del_keep h
        · exact drp_keep n _ _ _ (del_keep h)
      · exact drp_keep n _ _ _ h
    · exact h
theorem nd_drp:∀ (n:Nat) (d:Dk) (s til:Int),Nd d.fs→Nd (drpF n d s til).1.fs
  | 0,d,s,til,h=>h
  | n + 1,d,s,til,h=>by
    unfold drpF
    split
    · split
      · split
        · exact nd_del h _
        · exact nd_drp n _ _ _ (nd_del h _)
      · exact nd_drp n _ _ _ h
    · exact h
theorem drp_gone:∀ (n:Nat) (d:Dk) (s til:Int),Nd d.fs→(drpF n d s til).2=0→∀ k,s≤k→k<til→k≤1000000→(k - s).toNat<n→(hit (namB k) (drpF n d s til).1.fs).2=false
  | 0,d,s,til,h,h0,k,_,_,_,hn=>by omega
  | n + 1,d,s,til,h,h0,k,h1,h2,h3,hn=>by
    unfold drpF at h0 ⊢
    rw [if_pos ⟨by omega,by omega⟩] at h0 ⊢
    cases hh:(hit (namB s) d.fs).2 with
    | true =>
      rw [hh] at h0
      simp only [if_true] at h0 ⊢
      by_cases he:(del d (namB s)).2=0
      · rw [if_neg (by simpa using he)] at h0 ⊢
        by_cases hk:k=s
        · subst hk
          exact drp_keep n _ _ _ (del_gone h.uniq he)
        · exact drp_gone n _ _ _ (nd_del h _) h0 k (by omega) h2 h3 (by omega)
      · rw [if_pos he] at h0
        exact absurd h0 he
    | false =>
      rw [hh] at h0
      simp only [Bool.false_eq_true,if_false] at h0 ⊢
      by_cases hk:k=s
      · subst hk
        exact drp_keep n _ _ _ hh
      · exact drp_gone n _ _ _ h h0 k (by omega) h2 h3 (by omega)
theorem nd_lay {d:Dk} (h:Nd d.fs) (nm s:ByteArray):Nd (Rn.lay d nm s).1.fs:=by
 have h1:Nd (Rn.lay1 d nm).1.fs:=by unfold Rn.lay1;split;exact nd_del h _;exact h
 have h2:Nd (Rn.lay2 d nm s).1.fs:=by unfold Rn.lay2;split;exact nd_appd h1 _ _;exact h1
 have h3:Nd (Rn.lay3 d nm s).1.fs:=by unfold Rn.lay3;split;exact nd_syn h2 _;exact h2
 unfold Rn.lay;split;exact nd_ren h3 _ _;exact h3
theorem nd_swp {d:Dk} (h:Nd d.fs) (run frm til:Int):Nd (swpM d run frm til).1.fs:=by
 unfold swpM swpB
 have h1:Nd (if (hit (rnamB run) d.fs).2=true then del d (rnamB run) else (d,0)).1.fs:=by split;exact nd_del h _;exact h
 generalize (if (hit (rnamB run) d.fs).2=true then del d (rnamB run) else (d,(0:Int)))=x at h1 ⊢
 split
 · exact h1
 · exact nd_drp _ _ _ _ h1
theorem swp_gone {d:Dk} (h:Nd d.fs) {run frm til:Int} (h0:(swpM d run frm til).2=0) (hf:1≤frm):(hit (rnamB run) (swpM d run frm til).1.fs).2=false∧∀ k,frm≤k→k<til→k≤1000000→(hit (namB k) (swpM d run frm til).1.fs).2=false:=by
 unfold swpM at h0 ⊢
 have h1:Nd (if (hit (rnamB run) d.fs).2=true then del d (rnamB run) else (d,0)).1.fs:=by split;exact nd_del h _;exact h
 have h2:(if (hit (rnamB run) d.fs).2=true then del d (rnamB run) else (d,(0:Int))).2=0→(hit (rnamB run) (if (hit (rnamB run) d.fs).2=true then del d (rnamB run) else (d,(0:Int))).1.fs).2=false:=by
  cases hh:(hit (rnamB run) d.fs).2 with
  | true=>simp only [if_true];exact fun e=>del_gone h.uniq e
  | false=>simp only [Bool.false_eq_true,if_false];exact fun _=>hh
 generalize (if (hit (rnamB run) d.fs).2=true then del d (rnamB run) else (d,(0:Int)))=x at h0 h1 h2 ⊢
 unfold swpB at h0 ⊢
 by_cases hx:x.2=0
 · rw [if_neg (by simpa using hx)] at h0 ⊢
   unfold drpM at h0 ⊢
   refine ⟨drp_keep _ _ _ _ (h2 hx),fun k k1 k2 k3=>drp_gone _ _ _ _ h1 h0 k (by omega) k2 k3 (by omega)⟩
 · rw [if_pos hx] at h0
   exact absurd h0 hx
structure Ki (x:Ks):Prop where
  nd:Nd x.d.fs
  f1:1≤x.frm
  fs:x.frm≤x.seg
  s1:x.seg≤1000000
  r0:0≤x.run
  r1:x.run≤1000000
theorem put_seg {d:Dk} {sg:Int} (h:segOk sg) (r:ByteArray):sg≤(putM d sg r).2.1∧(putM d sg r).2.1≤1000000:=by
 unfold putM
 rw [if_neg (by simpa using h)]
 split
 · exact ⟨Int.le_refl _,h.2⟩
 unfold putB
 split
 · exact ⟨Int.le_refl _,h.2⟩
 split
 · exact ⟨Int.le_refl _,h.2⟩
 split
 · exact ⟨Int.le_refl _,h.2⟩
 · rename_i hm
   have:=h.2
   show sg≤sg+1∧sg+1≤1000000
   omega
theorem com_ki {x:Ks} (h:Ki x) (b:Bm.Bt):Ki (comM x b).1:=by
 have hs:segOk x.seg:=⟨by have:=h.f1;have:=h.fs;omega,h.s1⟩
 obtain ⟨p1,p2⟩:=put_seg (d:=x.d) hs (recB b)
 have hn:=nd_putM h.nd x.seg (recB b)
 have hfs:=h.fs
 unfold comM
 split
 · exact h
 split
 · exact h
 unfold comA
 split
 · exact ⟨hn,h.f1,Int.le_trans hfs p1,p2,h.r0,h.r1⟩
 · unfold comB
   split
   · exact ⟨nd_syncM hn _,h.f1,Int.le_trans hfs p1,p2,h.r0,h.r1⟩
   · exact ⟨nd_syncM hn _,h.f1,Int.le_trans hfs p1,p2,h.r0,h.r1⟩
theorem chk_state (x:Ks):(chkM x).1.s=x.s:=by
 unfold chkM
 split
 · rfl
 split
 · rfl
 split
 · rfl
 unfold chkA
 split
 · rfl
 unfold chkB
 split
 · rfl
 unfold chkC
 split
 · rfl
 · rfl
theorem chk_ki {x:Ks} (h:Ki x) (h0:(chkM x).2=0):Ki (chkM x).1∧(chkM x).1.run=x.run+1∧(chkM x).1.frm=x.seg+1∧(chkM x).1.seg=x.seg+1 ∧
    (hit (namB x.seg) (chkM x).1.d.fs).2=false∧(hit (rnamB x.run) (chkM x).1.d.fs).2=false:=by
  unfold chkM at h0 ⊢
  split at h0
  · simp at h0
  rename_i c1
  rw [if_neg c1]
  split at h0
  · simp at h0
  rename_i c2
  rw [if_neg c2]
  split at h0
  · rename_i c3;exact absurd h0 c3
  rename_i c3
  rw [if_neg c3]
  have n1:=nd_lay h.nd (rnamB (x.run+1)) ⟨(rbM (Bm.pairs x.s)).1.toArray⟩
  generalize Rn.lay x.d (rnamB (x.run+1)) ⟨(rbM (Bm.pairs x.s)).1.toArray⟩=p at h0 n1 ⊢
  unfold chkA at h0 ⊢
  split at h0
  · rename_i c4;exact absurd h0 c4
  rename_i c4
  rw [if_neg c4]
  have n2:=nd_lay n1 mB (manB (x.seg+1) (x.run+1))
  generalize Rn.lay p.1 mB (manB (x.seg+1) (x.run+1))=q at h0 n2 ⊢
  unfold chkB at h0 ⊢
  split at h0
  · rename_i c5;exact absurd h0 c5
  rename_i c5
  rw [if_neg c5]
  have n3:=nd_swp n2 x.run x.frm (x.seg+1)
  have n4:=swp_gone n2 (run:=x.run) (frm:=x.frm) (til:=x.seg+1)
  generalize swpM q.1 x.run x.frm (x.seg+1)=z at h0 n3 n4 ⊢
  unfold chkC at h0 ⊢
  split at h0
  · rename_i c6;exact absurd h0 c6
  rename_i c6
  rw [if_neg c6]
  obtain ⟨g1,g2⟩:=n4 (by simpa using c6) h.f1
  have:=h.f1;have:=h.fs;have:=h.r0
  exact ⟨⟨n3,by show 1≤x.seg+1;omega,Int.le_refl _,by show x.seg+1≤1000000;omega,by show 0≤x.run+1;omega,by show x.run+1≤1000000;omega⟩,rfl,rfl,rfl,g2 x.seg h.fs (by omega) h.s1,g1⟩
end Km
end
section
open Dkm Wm Du
namespace Wl
abbrev Rec:=List UInt8
def Le (r:List Rec):Prop:=∀ x∈r,x.length≤2048
def Full (fs:List Fil) (k:Int) (r:List Rec):Prop:=
  (hit (namB k) fs).2=true∧(hit (namB k) fs).1.sf.data.toList=flat r∧(hit (namB k) fs).1.wt=⟨#[]⟩∧(flat r).length≤8192
structure St (fs:List Fil) (rs:List (List Rec)) (r:List Rec) (t:List UInt8) (m:Nat):Prop where
  uniq:Uniq fs
  top:rs.length+1≤1000000
  full:∀ i (h:i<rs.length),Full fs ((i:Int)+1) rs[i]
  none:∀ k:Int,(rs.length:Int)+1<k→segOk k→(hit (namB k) fs).2=false
  les:∀ x∈rs,Le x
  le:Le r
  part:Part t
  mle:m≤r.length
  size:(flat r++t).length≤8192
  last:((hit (namB ((rs.length:Int)+1)) fs).2=false∧r=[]∧t=[])∨((hit (namB ((rs.length:Int)+1)) fs).2=true)
  text:(hit (namB ((rs.length:Int)+1)) fs).1.sf.data.toList++(hit (namB ((rs.length:Int)+1)) fs).1.wt.data.toList=flat r++t
  safe:flat (r.take m) <+: (hit (namB ((rs.length:Int)+1)) fs).1.sf.data.toList
theorem St.ok {fs:List Fil} {rs:List (List Rec)} {r:List Rec} {t:List UInt8} {m:Nat} (h:St fs rs r t m):segOk ((rs.length:Int)+1):=by have:=h.top;unfold segOk;omega
theorem hit_def {nm:ByteArray} {l:List Fil} (h:(hit nm l).2=false):(hit nm l).1=⟨⟨#[]⟩,⟨#[]⟩,⟨#[]⟩⟩:=by rw [hit_none (hit_no h)]
theorem St.turn {fs fs':List Fil} {rs:List (List Rec)} {r r':List Rec} {t t':List UInt8} {m m':Nat} (h:St fs rs r t m) (hu:Uniq fs')
    (ha:∀ k,segOk k→k≠(rs.length:Int)+1→hit (namB k) fs'=hit (namB k) fs) (hle:Le r') (hp:Part t') (hm:m'≤r'.length) (hs:(flat r'++t').length≤8192)
    (hit1:(hit (namB ((rs.length:Int)+1)) fs').2=true) (htx:(hit (namB ((rs.length:Int)+1)) fs').1.sf.data.toList++(hit (namB ((rs.length:Int)+1)) fs').1.wt.data.toList=flat r'++t')
    (hsf:flat (r'.take m') <+: (hit (namB ((rs.length:Int)+1)) fs').1.sf.data.toList):St fs' rs r' t' m' where
  uniq:=hu
  top:=h.top
  full i hi:=by
   have h1:=h.full i hi
   have e:=ha ((i:Int)+1) (by have:=h.top;unfold segOk;omega) (by omega)
   unfold Full at h1 ⊢
   rw [e];exact h1
  none k hk hs:=by rw [ha k hs (by omega)];exact h.none k hk hs
  les:=h.les
  le:=hle
  part:=hp
  mle:=hm
  size:=hs
  last:=.inr hit1
  text:=htx
  safe:=hsf
theorem St.next {fs:List Fil} {rs:List (List Rec)} {r:List Rec} {m:Nat} (h:St fs rs r [] m) (htop:rs.length+2≤1000000) (h1:(hit (namB ((rs.length:Int)+1)) fs).2=true) (hw:(hit (namB ((rs.length:Int)+1)) fs).1.wt=⟨#[]⟩):St fs (rs++[r]) [] [] 0:=by
 have hl:((rs++[r]).length:Int)+1=(rs.length:Int)+2:=by simp;omega
 have hn:(hit (namB ((rs.length:Int)+2)) fs).2=false:=h.none _ (by omega) (by unfold segOk;omega)
 have hd:=hit_def hn
 refine ⟨h.uniq,by simp;omega,fun i hi=>?_,fun k hk hs=>h.none k (by rw [hl] at hk;omega) hs,fun x hx=>?_,fun x hx=>by simp at hx,Part.nil,by simp,by simp [flat_nil],?_,?_,?_⟩
 · by_cases hi2:i<rs.length
   · rw [List.getElem_append_left hi2];exact h.full i hi2
   · have e:i=rs.length:=by simp at hi;omega
     subst e
     have htx:=h.text
     rw [hw] at htx
     have e1:(rs++[r])[rs.length]=r:=by simp
     rw [e1]
     refine ⟨h1,by simpa using htx,hw,by have:=h.size;simpa using this⟩
 · rcases List.mem_append.1 hx with hx | hx
   · exact h.les x hx
   · simp at hx;subst hx;exact h.le
 · rw [hl];exact .inl ⟨hn,rfl,rfl⟩
 · rw [hl,hd];rfl
 · rw [hl,hd];simp [flat_nil]
theorem St.back {fs:List Fil} {rs:List (List Rec)} {r:List Rec} {m:Nat} (h:St fs (rs++[r]) [] [] m) (hn:(hit (namB (((rs++[r]).length:Int)+1)) fs).2=false):St fs rs r [] r.length:=by
 have hl:((rs++[r]).length:Int)+1=(rs.length:Int)+2:=by simp;omega
 rw [hl] at hn
 have hf:=h.full rs.length (by simp)
 have e1:(rs++[r])[rs.length]'(by simp)=r:=by simp
 rw [e1] at hf
 obtain ⟨f1,f2,f3,f4⟩:=hf
 have htop:=h.top
 rw [List.length_append,List.length_singleton] at htop
 refine ⟨h.uniq,by omega,fun i hi=>?_,fun k hk hs=>?_,fun x hx=>h.les x (by simp [hx]),h.les r (by simp),Part.nil,Nat.le_refl _,by simpa using f4,.inr f1,by rw [f2,f3],by rw [f2,List.take_length];exact List.prefix_refl _⟩
 · have:=h.full i (by simp;omega)
   rw [List.getElem_append_left hi] at this;exact this
 · by_cases e:k=(rs.length:Int)+2
   · rw [e];exact hn
   · exact h.none k (by rw [hl];omega) hs
theorem whole_in {us r:List Rec} {q:List UInt8} {m:Nat} (hu:Le us) (hr:Le r) (hq:Part q) (hm:m≤r.length) (h:flat (r.take m) <+: flat us++q):m≤us.length:=by
 obtain ⟨b,hb⟩:=h
 have h1:=scn_part us hu hq
 rw [←hb,scn_app (r.take m) (fun x hx=>hr x (List.mem_of_mem_take hx)) b] at h1
 have:=congrArg (fun x=>x.1.length) h1
 simp only [List.length_append,List.length_take] at this
 omega
theorem sld_small (s:List UInt8) (hs:s.length≤2048):(sld s).length≤2100:=by
 have:=sld_length s (by omega)
 omega
theorem putA_inv {d:Dk} {rs:List (List Rec)} {r:List Rec} {m:Nat} (h:St d.fs rs r [] m) (rec:ByteArray) (hrec:rec.size≤2048) (hsz:(flat r).length<256) :
    ((appd d (namB ((rs.length:Int)+1)) (sealB rec)).2=0→St (appd d (namB ((rs.length:Int)+1)) (sealB rec)).1.fs rs (r++[rec.data.toList]) [] m) ∧
    ((appd d (namB ((rs.length:Int)+1)) (sealB rec)).2≠0→∃ t,St (appd d (namB ((rs.length:Int)+1)) (sealB rec)).1.fs rs r t m∧((appd d (namB ((rs.length:Int)+1)) (sealB rec)).2≠6→t=[])):=by
  have hap:∀ k,segOk k→k≠(rs.length:Int)+1→hit (namB k) (appd d (namB ((rs.length:Int)+1)) (sealB rec)).1.fs=hit (namB k) d.fs:=fun k hk hne=>appd_apart d fun e=>hne (namB_inj hk h.ok e)
  have hl:rec.data.toList.length=rec.size:=by show rec.data.toList.length=rec.data.size;simp
  have hsl:=sld_small rec.data.toList (by omega)
  rcases appd_cases d (namB ((rs.length:Int)+1)) (sealB rec) h.uniq with ⟨e1,e2⟩ | ⟨e1,e2,e3⟩
  · rw [e1]
    refine ⟨fun h0=>?_,fun _=>⟨[],h,fun _=>rfl⟩⟩
    rcases e2 with ⟨e,_⟩ | ⟨e,_⟩ | e | ⟨e,_⟩<;>rw [e] at h0<;>cases h0
  · generalize appd d (namB ((rs.length:Int)+1)) (sealB rec)=x at e1 e2 e3 hap
    have htx:=h.text
    rw [List.append_nil] at htx
    cases hsh:short d.fuse (sealB rec) with
    | false =>
      rw [hsh] at e1
      have hc:cut d.fuse (sealB rec)=sealB rec:=by unfold cut;rw [hsh];rfl
      rw [hc] at e3
      have hfl:flat (r++[rec.data.toList])=flat r++sld rec.data.toList:=by rw [flat_app,flat_cons,flat_nil,List.append_nil]
      refine ⟨fun _=>h.turn e2 hap (fun y hy=>?_) Part.nil (by have:=h.mle;simp;omega) (by rw [hfl];simp;omega) (by rw [e3]) ?_ ?_,fun h0=>absurd e1 h0⟩
      · rcases List.mem_append.1 hy with hy | hy
        · exact h.le y hy
        · simp at hy;subst hy;omega
      · rw [e3]
        show (hit _ d.fs).1.sf.data.toList++((hit _ d.fs).1.wt++sealB rec).data.toList=_
        rw [ByteArray.data_append,Array.toList_append,sealB_list,←List.append_assoc,htx,hfl,List.append_nil]
      · rw [e3,List.take_append_of_le_length h.mle];exact h.safe
    | true =>
      rw [hsh] at e1
      have hc:cut d.fuse (sealB rec)=(sealB rec).extract 0 d.fuse.toNat:=by unfold cut;rw [hsh];rfl
      rw [hc] at e3
      have hcl:((sealB rec).extract 0 d.fuse.toNat).data.toList=(sld rec.data.toList).take d.fuse.toNat:=by rw [ByteArray.data_extract];simp [sealB]
      have hfu:d.fuse.toNat<(sld rec.data.toList).length:=by
       simp only [short,decide_eq_true_eq] at hsh
       rw [sealB_size] at hsh;omega
      refine ⟨fun h0=>(by rw [h0] at e1;cases e1),fun _=>⟨(sld rec.data.toList).take d.fuse.toNat,h.turn e2 hap h.le ⟨rec.data.toList,by unfold Dm.maxU;omega,_,hfu,rfl⟩ h.mle (by rw [List.length_append,List.length_take];omega) (by rw [e3]) ?_ (by rw [e3];exact h.safe),fun h6=>absurd e1 h6⟩⟩
      rw [e3]
      show (hit _ d.fs).1.sf.data.toList++((hit _ d.fs).1.wt++(sealB rec).extract 0 d.fuse.toNat).data.toList=_
      rw [ByteArray.data_append,Array.toList_append,hcl,←List.append_assoc,htx]
theorem syn_inv {d:Dk} {rs:List (List Rec)} {r:List Rec} {t:List UInt8} {m:Nat} (h:St d.fs rs r t m) :
    ((syn d (namB ((rs.length:Int)+1))).2=0→St (syn d (namB ((rs.length:Int)+1))).1.fs rs r t r.length∧(hit (namB ((rs.length:Int)+1)) (syn d (namB ((rs.length:Int)+1))).1.fs).2=true∧(hit (namB ((rs.length:Int)+1)) (syn d (namB ((rs.length:Int)+1))).1.fs).1.wt=⟨#[]⟩) ∧
    ((syn d (namB ((rs.length:Int)+1))).2≠0→(syn d (namB ((rs.length:Int)+1))).1=d):=by
  have hap:∀ k,segOk k→k≠(rs.length:Int)+1→hit (namB k) (syn d (namB ((rs.length:Int)+1))).1.fs=hit (namB k) d.fs:=fun k hk hne=>syn_apart d fun e=>hne (namB_inj hk h.ok e)
  rcases syn_cases d (namB ((rs.length:Int)+1)) h.uniq with ⟨e1,e2⟩ | ⟨e1,e2,e3,e4,e5⟩
  · rw [e1]
    refine ⟨fun h0=>?_,fun _=>rfl⟩
    rcases e2 with ⟨e,_⟩ | ⟨e,_⟩<;>rw [e] at h0<;>cases h0
  · refine ⟨fun _=>?_,fun h0=>absurd e1 h0⟩
    generalize syn d (namB ((rs.length:Int)+1))=x at e1 e4 e5 hap
    have htx:=h.text
    have hsf:(hit (namB ((rs.length:Int)+1)) x.1.fs).1.sf.data.toList=flat r++t:=by
     rw [e5]
     show ((hit _ d.fs).1.sf++(hit _ d.fs).1.wt).data.toList=_
     rw [ByteArray.data_append,Array.toList_append];exact htx
    refine ⟨h.turn e4 hap h.le h.part (Nat.le_refl _) h.size (by rw [e5]) ?_ ?_,by rw [e5],by rw [e5]⟩
    · rw [hsf,e5];simp
    · rw [hsf,List.take_length];exact List.prefix_append _ _
theorem crs_inv {d:Dk} {rs:List (List Rec)} {r:List Rec} {t:List UInt8} {m:Nat} (h:St d.fs rs r t m) (ks:List Int) :
    ∃ us q,us <+: r∧m≤us.length∧St (crs d ks).fs rs us q m∧(hit (namB ((rs.length:Int)+1)) (crs d ks).fs).1.wt=⟨#[]⟩:=by
  have hfull:∀ i (hi:i<rs.length),Full (crs d ks).fs ((i:Int)+1) rs[i]:=by
   intro i hi
   obtain ⟨f1,f2,f3,f4⟩:=h.full i hi
   rcases hit_crs d ks (namB ((i:Int)+1)) with ⟨e,_⟩ | ⟨_,k,e⟩
   · rw [f1] at e;cases e
   · unfold Full
     rw [e,f3]
     refine ⟨rfl,?_,rfl,f4⟩
     show ((hit _ d.fs).1.sf++(⟨#[]⟩:ByteArray).extract 0 k).data.toList=_
     rw [ByteArray.data_append,Array.toList_append,f2];simp
  have hnone:∀ k:Int,(rs.length:Int)+1<k→segOk k→(hit (namB k) (crs d ks).fs).2=false:=by
   intro k hk hs
   rcases hit_crs d ks (namB k) with ⟨_,e⟩ | ⟨e,_⟩
   · exact e
   · rw [h.none k hk hs] at e;cases e
  rcases hit_crs d ks (namB ((rs.length:Int)+1)) with ⟨e1,e2⟩ | ⟨e1,k,e2⟩
  · rcases h.last with ⟨_,rfl,rfl⟩ | e
    · have hd:=hit_def e2
      have hm:m=0:=Nat.le_zero.1 h.mle
      subst hm
      refine ⟨[],[],List.prefix_refl _,Nat.le_refl _,⟨crs_uniq d ks h.uniq,h.top,hfull,hnone,h.les,h.le,Part.nil,Nat.le_refl _,h.size,.inl ⟨e2,rfl,rfl⟩,by rw [hd];rfl,by rw [hd];simp [flat_nil]⟩,by rw [hd]⟩
    · rw [e1] at e;cases e
  · have htx:=h.text
    have hsf:(hit (namB ((rs.length:Int)+1)) (crs d ks).fs).1.sf.data.toList=(hit (namB ((rs.length:Int)+1)) d.fs).1.sf.data.toList++(hit (namB ((rs.length:Int)+1)) d.fs).1.wt.data.toList.take k:=by
     rw [e2]
     show ((hit _ d.fs).1.sf++(hit _ d.fs).1.wt.extract 0 k).data.toList=_
     rw [ByteArray.data_append,Array.toList_append,ByteArray.data_extract];simp
    have hpre:(hit (namB ((rs.length:Int)+1)) (crs d ks).fs).1.sf.data.toList <+: flat r++t:=by
     rw [hsf,←htx]
     exact (List.prefix_append_right_inj _).2 (List.take_prefix _ _)
    have hsz:=hpre.length_le
    obtain ⟨us,q,u1,u2,u3⟩:=pre_part r t _ h.le h.part hpre
    have hle:Le us:=fun x hx=>h.le x (u1.subset hx)
    have hsafe:flat (r.take m) <+: flat us++q:=by
     rw [←u3,hsf]
     exact h.safe.trans (List.prefix_append _ _)
    have hml:=whole_in hle h.le u2 h.mle hsafe
    obtain ⟨v,hv⟩:=u1
    have htk:r.take m=us.take m:=by rw [←hv,List.take_append_of_le_length hml]
    refine ⟨us,q,⟨v,hv⟩,hml,⟨crs_uniq d ks h.uniq,h.top,hfull,hnone,h.les,hle,u2,hml,by rw [←u3];exact Nat.le_trans hsz h.size,.inr (by rw [e2]),?_,by rw [←htk,u3];exact hsafe⟩,by rw [e2]⟩
    rw [u3,e2];simp
end Wl
end
section
open Dkm Wm Du
namespace Wl
theorem appd_pow (d:Dk) (nm s:ByteArray) (h1:d.off=false) (h2:d.fuse<0):(appd d nm s).1.off=false∧(appd d nm s).1.fuse<0:=by
 have hs:short d.fuse s=false:=by unfold short;simp;omega
 unfold appd
 split;exact ⟨h1,h2⟩
 split;exact ⟨h1,h2⟩
 split;exact ⟨h1,h2⟩
 split;exact ⟨h1,h2⟩
 refine ⟨hs,?_⟩
 show (if 0≤d.fuse then _ else d.fuse)<0
 rw [if_neg (by omega)];exact h2
theorem syn_pow (d:Dk) (nm:ByteArray) (h1:d.off=false) (h2:d.fuse<0):(syn d nm).1.off=false∧(syn d nm).1.fuse<0:=by
 unfold syn
 split;exact ⟨h1,h2⟩
 split<;>exact ⟨h1,h2⟩
theorem crs_pow (d:Dk) (ks:List Int):(crs d ks).off=false∧(crs d ks).fuse<0:=⟨rfl,by show (-1:Int)<0;omega⟩
theorem cut_inv {x:Dk} {rs:List (List Rec)} {us:List Rec} {q:List UInt8} {m:Nat} (h:St x.fs rs us q m) (h1:x.off=false) (h2:x.fuse<0) (hhit:(hit (namB ((rs.length:Int)+1)) x.fs).2=true) :
    (cutM x ((rs.length:Int)+1) ⟨(flat us).toArray⟩).2=5∨((cutM x ((rs.length:Int)+1) ⟨(flat us).toArray⟩).2=0∧St (cutM x ((rs.length:Int)+1) ⟨(flat us).toArray⟩).1.fs rs us [] us.length ∧
      (hit (namB ((rs.length:Int)+1)) (cutM x ((rs.length:Int)+1) ⟨(flat us).toArray⟩).1.fs).2=true∧(hit (namB ((rs.length:Int)+1)) (cutM x ((rs.length:Int)+1) ⟨(flat us).toArray⟩).1.fs).1.wt=⟨#[]⟩):=by
  obtain ⟨s,hs⟩:∃ s:ByteArray,s=⟨(flat us).toArray⟩:=⟨_,rfl⟩
  have hsl:s.data.toList=flat us:=by rw [hs]
  have hsz:s.size≤8192:=by
   have e:s.size=(flat us).length:=by rw [←hsl];show s.data.size=_;simp
   have:=h.size
   rw [List.length_append] at this;omega
  rw [←hs]
  clear hs
  have c1:(cut1 x).2=0∧Uniq (cut1 x).1.fs∧(hit freshB (cut1 x).1.fs).2=false∧(cut1 x).1.off=false∧(cut1 x).1.fuse<0∧∀ o,o≠freshB→hit o (cut1 x).1.fs=hit o x.fs:=by
   unfold Wm.cut1
   split
   · rename_i hf
     obtain ⟨a1,a2,a3,a4,a5⟩:=del_on x freshB h.uniq h1 h2 hf
     exact ⟨a1,a2,a3,a4,a5,fun o ho=>del_apart x ho⟩
   · rename_i hf
     exact ⟨rfl,h.uniq,by simpa using hf,h1,h2,fun o _=>rfl⟩
  obtain ⟨a1,a2,a3,a4,a5,a6⟩:=c1
  have e2:cut2 x s=appd (cut1 x).1 freshB s:=by unfold Wm.cut2;rw [if_pos a1]
  have hsh:short (cut1 x).1.fuse s=false:=by unfold short;simp;omega
  have hct:Dkm.cut (cut1 x).1.fuse s=s:=by unfold Dkm.cut;rw [hsh];rfl
  have hdef:=hit_def a3
  rcases appd_cases (cut1 x).1 freshB s a2 with ⟨b1,b2⟩ | ⟨b1,b2,b3⟩
  · -- nothing was appended
    have h5:(cut2 x s).2=5:=by
     rw [e2]
     rcases b2 with ⟨_,e⟩ | ⟨_,e⟩ | e | ⟨_,e⟩
     · rw [a4] at e;cases e
     · exact absurd e (by decide)
     · exact e
     · rw [hdef] at e
       have e0:(⟨#[]⟩:ByteArray).size=0:=rfl
       rw [e0] at e;omega
    have h3:(cut3 x s).2=5:=by unfold Wm.cut3;rw [if_neg (by rw [h5];decide)];exact h5
    have h4:(cut4 x ((rs.length:Int)+1) s).2=5:=by unfold Wm.cut4;rw [if_neg (by rw [h3];decide)];exact h3
    left
    unfold Wm.cutM;rw [if_neg (by rw [h4];decide)];exact h4
  · rw [hsh] at b1
    rw [hct,hdef] at b3
    have b1:(appd (cut1 x).1 freshB s).2=0:=b1
    obtain ⟨p1,p2⟩:=appd_pow (cut1 x).1 freshB s a4 a5
    have b6:∀ o,o≠freshB→hit o (cut2 x s).1.fs=hit o x.fs:=fun o ho=>by rw [e2];exact (appd_apart _ ho).trans (a6 o ho)
    rw [←e2] at b1 b2 b3 p1 p2
    have e3:cut3 x s=syn (cut2 x s).1 freshB:=by unfold Wm.cut3;rw [if_pos b1]
    obtain ⟨r1,r2⟩:=syn_pow (cut2 x s).1 freshB p1 p2
    rcases syn_cases (cut2 x s).1 freshB b2 with ⟨_,d2⟩ | ⟨d1,_,_,d4,d5⟩
    · exfalso
      rcases d2 with ⟨_,e⟩ | ⟨_,e⟩
      · rw [p1] at e;cases e
      · rw [b3] at e;cases e
    rw [b3] at d5
    have d6:∀ o,o≠freshB→hit o (cut3 x s).1.fs=hit o x.fs:=fun o ho=>by rw [e3];exact (syn_apart _ ho).trans (b6 o ho)
    rw [←e3] at d1 d4 d5 r1 r2
    have e4:cut4 x ((rs.length:Int)+1) s=ren (cut3 x s).1 freshB (namB ((rs.length:Int)+1)):=by unfold Wm.cut4;rw [if_pos d1]
    have hnok:nmOk (namB ((rs.length:Int)+1))=true:=by have:=namB_ok h.ok;unfold nmOk;simp;omega
    obtain ⟨f1,f2,f3,f4,f5⟩:=ren_on (cut3 x s).1 freshB (namB ((rs.length:Int)+1)) d4 r1 r2 (by rw [d5]) hnok (Ne.symm (namB_fresh h.ok))
    rw [d5] at f3
    have f6:∀ o,o≠freshB→o≠namB ((rs.length:Int)+1)→hit o (cut4 x ((rs.length:Int)+1) s).1.fs=hit o x.fs:=fun o ho ho2=>by rw [e4];exact (ren_apart _ ho ho2).trans (d6 o ho)
    rw [←e4] at f1 f2 f3
    have hap:∀ k,segOk k→k≠(rs.length:Int)+1→hit (namB k) (cut4 x ((rs.length:Int)+1) s).1.fs=hit (namB k) x.fs:=fun k hk hne=>f6 _ (namB_fresh hk) fun e=>hne (namB_inj hk h.ok e)
    have hS:St (cut4 x ((rs.length:Int)+1) s).1.fs rs us [] us.length:=by
     have hsf:(hit (namB ((rs.length:Int)+1)) (cut4 x ((rs.length:Int)+1) s).1.fs).1.sf.data.toList=flat us:=by
      rw [f3]
      show ((⟨#[]⟩:ByteArray)++((⟨#[]⟩:ByteArray)++s)).data.toList=_
      rw [ByteArray.data_append,ByteArray.data_append,Array.toList_append,Array.toList_append,hsl];rfl
     refine h.turn f2 hap h.le Part.nil (Nat.le_refl _) (by have:=h.size;rw [List.length_append] at this ⊢;simp;omega) (by rw [f3]) ?_ (by rw [hsf,List.take_length];exact List.prefix_refl _)
     rw [hsf,f3]
    have hd:dels (fuelOf ((rs.length:Int)+1+1)) (cut4 x ((rs.length:Int)+1) s).1 ((rs.length:Int)+1+1)=((cut4 x ((rs.length:Int)+1) s).1,0):=by
     cases hfu:fuelOf ((rs.length:Int)+1+1) with
     | zero=>rfl
     | succ n =>
       unfold Wm.dels
       rw [if_neg]
       rintro ⟨g1,g2⟩
       rw [hS.none _ (by omega) g1] at g2;cases g2
    right
    unfold Wm.cutM
    rw [if_pos f1,hd]
    exact ⟨rfl,hS,by rw [f3],by rw [f3]⟩
theorem recF_full (d:Dk) (from_:Int):∀ (rs:List (List Rec)) (n:Nat) (s:Int) (acc:List Rec) (last:Int),(∀ i (h:i<rs.length),Full d.fs (s+(i:Int)) rs[i])→(∀ x∈rs,Le x)→1≤s→s+(rs.length:Int)≤1000001 →
    recF (rs.length+n) d from_ s acc last=recF n d from_ (s+(rs.length:Int)) (acc++rs.flatten) (if rs=[] then last else s+(rs.length:Int) - 1)
  | [],n,s,acc,last,_,_,_,_=>by simp
  | r :: rs,n,s,acc,last,hf,hl,h1,h2=>by
    simp only [List.length_cons] at h2
    have hs:segOk s:=by unfold segOk;omega
    obtain ⟨f1,f2,f3,f4⟩:=hf 0 (by simp)
    simp only [Int.ofNat_zero,Int.add_zero,List.getElem_cons_zero] at f1 f2 f3 f4
    have hrd:redd (namB s) d.fs=((hit (namB s) d.fs).1.sf++⟨#[]⟩,0):=by unfold redd;rw [f1,if_pos rfl,f3]
    have hsc:scn (redd (namB s) d.fs).1.data.toList=(r,[]):=by
     rw [hrd]
     show scn ((hit (namB s) d.fs).1.sf++(⟨#[]⟩:ByteArray)).data.toList=_
     rw [ByteArray.data_append,Array.toList_append,f2]
     simpa using scn_flat r (hl r (by simp))
    have ih:=recF_full d from_ rs n (s+1) (acc++r) s (fun i hi=>by
     have:=hf (i+1) (by simpa using hi)
     rw [List.getElem_cons_succ] at this
     rw [show s+1+(i:Int)=s+((i+1:Nat):Int) by omega];exact this) (fun x hx=>hl x (by simp [hx])) (by omega) (by omega)
    rw [show (r :: rs).length+n=(rs.length+n)+1 by simp;omega]
    conv=>lhs;unfold Wm.recF
    rw [if_neg (by simpa using hs),if_neg (by rw [hrd];simp),hsc]
    simp only [if_true]
    rw [ih]
    have e1:s+1+(rs.length:Int)=s+((r :: rs).length:Int):=by simp;omega
    rw [e1]
    have e2:acc++r++rs.flatten=acc++(r :: rs).flatten:=by simp
    rw [e2]
    congr 1
    rw [if_neg (List.cons_ne_nil r rs)]
    by_cases hr:rs=[]
    · rw [if_pos hr];subst hr;simp
    · rw [if_neg hr]
theorem rec_st (x:Dk) {rs:List (List Rec)} {us:List Rec} {q:List UInt8} {m:Nat} (h:St x.fs rs us q m) :
    recM x 1=recF (1000000 - rs.length) x 1 ((rs.length:Int)+1) rs.flatten (if rs=[] then 1 else (rs.length:Int)):=by
  have htop:=h.top
  unfold Wm.recM
  rw [if_neg (by unfold segOk;omega)]
  have e:fuelOf 1=rs.length+(1000000 - rs.length):=by unfold fuelOf;omega
  rw [e,recF_full x 1 rs (1000000 - rs.length) 1 [] 1 (fun i hi=>by rw [show (1:Int)+(i:Int)=(i:Int)+1 by omega];exact h.full i hi) h.les (by omega) (by omega)]
  rw [show (1:Int)+(rs.length:Int)=(rs.length:Int)+1 by omega,List.nil_append]
  congr 1
  by_cases hr:rs=[]
  · rw [if_pos hr,if_pos hr]
  · rw [if_neg hr,if_neg hr];omega
theorem rec_clean {x:Dk} {rs:List (List Rec)} {us:List Rec} {m:Nat} (h:St x.fs rs us [] m) (hw:(hit (namB ((rs.length:Int)+1)) x.fs).1.wt=⟨#[]⟩) :
    recM x 1=(x,rs.flatten++us,if (hit (namB ((rs.length:Int)+1)) x.fs).2 then (rs.length:Int)+1 else if rs=[] then 1 else (rs.length:Int),0):=by
  rw [rec_st x h]
  have htop:=h.top
  obtain ⟨n,hn⟩:∃ n,1000000 - rs.length=n+1:=⟨1000000 - rs.length - 1,by omega⟩
  rw [hn]
  conv=>lhs;unfold Wm.recF
  rw [if_neg (by simpa using h.ok)]
  rcases h.last with ⟨e,rfl,_⟩ | e
  · have hrd:(redd (namB ((rs.length:Int)+1)) x.fs).2=7:=by unfold redd;rw [e];rfl
    rw [if_pos (by rw [hrd];decide),e]
    simp
  · have hrd:redd (namB ((rs.length:Int)+1)) x.fs=((hit (namB ((rs.length:Int)+1)) x.fs).1.sf++(hit (namB ((rs.length:Int)+1)) x.fs).1.wt,0):=by unfold redd;rw [e,if_pos rfl]
    have hsc:scn (redd (namB ((rs.length:Int)+1)) x.fs).1.data.toList=(us,[]):=by
     rw [hrd]
     show scn ((hit _ x.fs).1.sf++(hit _ x.fs).1.wt).data.toList=_
     rw [ByteArray.data_append,Array.toList_append,h.text,List.append_nil]
     exact scn_flat us h.le
    rw [if_neg (by rw [hrd];simp),hsc,e]
    simp only [if_true]
    cases n with
    | zero=>rfl
    | succ n =>
      unfold Wm.recF
      by_cases hs:segOk ((rs.length:Int)+1+1)
      · rw [if_neg (by simpa using hs)]
        have hno:=h.none _ (by omega) hs
        have hrd2:(redd (namB ((rs.length:Int)+1+1)) x.fs).2=7:=by unfold redd;rw [hno];rfl
        rw [if_pos (by rw [hrd2];decide)]
      · rw [if_pos hs]
theorem rec_torn {x:Dk} {rs:List (List Rec)} {us:List Rec} {q:List UInt8} {m:Nat} (h:St x.fs rs us q m) (hq:q≠[]) :
    (hit (namB ((rs.length:Int)+1)) x.fs).2=true ∧
    recM x 1=if (cutM x ((rs.length:Int)+1) ⟨(flat us).toArray⟩).2≠0 then ((cutM x ((rs.length:Int)+1) ⟨(flat us).toArray⟩).1,[],1,(cutM x ((rs.length:Int)+1) ⟨(flat us).toArray⟩).2)
      else ((cutM x ((rs.length:Int)+1) ⟨(flat us).toArray⟩).1,rs.flatten++us,(rs.length:Int)+1,0):=by
  have htop:=h.top
  rcases h.last with ⟨_,_,e⟩ | e
  · exact absurd e hq
  refine ⟨e,?_⟩
  rw [rec_st x h]
  obtain ⟨n,hn⟩:∃ n,1000000 - rs.length=n+1:=⟨1000000 - rs.length - 1,by omega⟩
  rw [hn]
  have hrd:redd (namB ((rs.length:Int)+1)) x.fs=((hit (namB ((rs.length:Int)+1)) x.fs).1.sf++(hit (namB ((rs.length:Int)+1)) x.fs).1.wt,0):=by unfold redd;rw [e,if_pos rfl]
  have hsc:scn (redd (namB ((rs.length:Int)+1)) x.fs).1.data.toList=(us,q):=by
   rw [hrd]
   show scn ((hit _ x.fs).1.sf++(hit _ x.fs).1.wt).data.toList=_
   rw [ByteArray.data_append,Array.toList_append,h.text]
   exact scn_part us h.le h.part
  unfold Wm.recF
  rw [if_neg (by simpa using h.ok),if_neg (by rw [hrd];simp),hsc]
  simp only
  rw [if_neg hq]
end Wl
end
section
open Dkm Wm Du
namespace Wl
structure Lw where
  d:Dk
  seg:Int
  put:List Rec
  safe:Nat
  dead:Bool
def Lw.puts (w:Lw) (rec:ByteArray):Lw:=
  if w.dead then w
  else ⟨(putM w.d w.seg rec).1,(putM w.d w.seg rec).2.1,if (putM w.d w.seg rec).2.2=0 then w.put++[rec.data.toList] else w.put,if (putM w.d w.seg rec).2.1≠w.seg then w.put.length else w.safe,decide ((putM w.d w.seg rec).2.2=6)⟩
def Lw.syncs (w:Lw):Lw:={ w with d:=(syncM w.d w.seg).1,safe:=if (syncM w.d w.seg).2=0∧w.dead=false then w.put.length else w.safe }
def In (w:Lw):Prop:=∃ rs r t m,St w.d.fs rs r t m∧w.seg=(rs.length:Int)+1∧w.put=rs.flatten++r∧w.safe≤rs.flatten.length+m∧(w.dead=false→t=[])
theorem St.redd {fs:List Fil} {rs:List (List Rec)} {r:List Rec} {t:List UInt8} {m:Nat} (h:St fs rs r t m):(redd (namB ((rs.length:Int)+1)) fs).1.data.toList=flat r++t:=by
 have htx:=h.text
 unfold Dkm.redd
 split
 · show ((hit _ fs).1.sf++(hit _ fs).1.wt).data.toList=_
   rw [ByteArray.data_append,Array.toList_append];exact htx
 · rename_i hh
   rw [hit_def (by simpa using hh)] at htx
   rw [←htx];rfl
theorem new_in (room:Int):In ⟨⟨[],room,-1,false⟩,1,[],0,false⟩:=by
 have hn:∀ nm:ByteArray,hit nm []=(⟨⟨#[]⟩,⟨#[]⟩,⟨#[]⟩⟩,false):=fun nm=>rfl
 refine ⟨[],[],[],0,⟨fun i j hi _ _=>by simp at hi,by simp,fun i hi=>by simp at hi,fun k _ _=>by rw [hn],fun x hx=>by simp at hx,fun x hx=>by simp at hx,Part.nil,by simp,by simp [flat_nil],.inl ⟨by rw [hn],rfl,rfl⟩,by rw [hn];simp [flat_nil],by rw [hn];simp [flat_nil]⟩,rfl,rfl,by simp,fun _=>rfl⟩
theorem arm_in {w:Lw} (h:In w) (d':Dk) (hd:d'.fs=w.d.fs):In { w with d:=d' }:=by
 obtain ⟨rs,r,t,m,h1,h2,h3,h4,h5⟩:=h
 exact ⟨rs,r,t,m,by show St d'.fs rs r t m;rw [hd];exact h1,h2,h3,h4,h5⟩
theorem put_in {w:Lw} (h:In w) (rec:ByteArray):In (w.puts rec):=by
 obtain ⟨d,seg,put,safe,dead⟩:=w
 obtain ⟨rs,r,t,m,h1,h2,h3,h4,h5⟩:=h
 simp only at h1 h2 h3 h4 h5
 unfold Lw.puts
 cases dead with
 | true=>exact ⟨rs,r,t,m,h1,h2,h3,h4,h5⟩
 | false =>
   have ht:=h5 rfl
   subst ht
   simp only [Bool.false_eq_true,if_false]
   have hok:segOk seg:=by rw [h2];exact h1.ok
   unfold putM
   rw [if_neg (by simpa using hok)]
   by_cases hbig:2048<rec.size
   · rw [if_pos hbig]
     exact ⟨rs,r,[],m,h1,h2,by simpa using h3,by simpa using h4,fun _=>rfl⟩
   · rw [if_neg hbig]
     have hrd:(redd (namB seg) d.fs).1.size=(flat r).length:=by
      rw [h2]
      have:=congrArg List.length h1.redd
      rw [List.append_nil] at this
      rw [←this]
      show (redd _ d.fs).1.data.size=_
      simp
     unfold putB
     by_cases hsm:(redd (namB seg) d.fs).1.size<256
     · rw [if_pos hsm]
       unfold putA
       obtain ⟨p1,p2⟩:=putA_inv h1 rec (by omega) (by omega)
       rw [←h2] at p1 p2
       by_cases h0:(appd d (namB seg) (sealB rec)).2=0
       · refine ⟨rs,r++[rec.data.toList],[],m,p1 h0,h2,?_,by simpa using h4,fun _=>rfl⟩
         simp only [h0,if_true,h3,List.append_assoc]
       · obtain ⟨t,q1,q2⟩:=p2 h0
         refine ⟨rs,r,t,m,q1,h2,by simp only [h0,if_false];exact h3,by simpa using h4,fun hd=>q2 (by simpa using hd)⟩
     · rw [if_neg hsm]
       obtain ⟨s1,s2⟩:=syn_inv h1
       rw [←h2] at s1 s2
       by_cases h0:(syn d (namB seg)).2=0
       · rw [if_neg (by simpa using h0)]
         obtain ⟨u1,u2,u3⟩:=s1 h0
         by_cases hmx:seg=1000000
         · rw [if_pos hmx]
           have:=h1.mle
           refine ⟨rs,r,[],r.length,u1,h2,by simpa using h3,?_,fun _=>rfl⟩
           simp only [ne_eq,not_true_eq_false,if_false];omega
         · rw [if_neg hmx]
           unfold putA
           have htop:=h1.top
           have hn:=u1.next (by omega) (by rw [←h2];exact u2) (by rw [←h2];exact u3)
           have hl:seg+1=((rs++[r]).length:Int)+1:=by rw [h2];simp
           obtain ⟨p1,p2⟩:=putA_inv hn rec (by omega) (by simp [flat_nil])
           rw [←hl] at p1 p2
           have hput:put=(rs++[r]).flatten:=by rw [h3];simp
           have hne:seg+1≠seg:=by omega
           by_cases h7:(appd (syn d (namB seg)).1 (namB (seg+1)) (sealB rec)).2=0
           · refine ⟨rs++[r],[]++[rec.data.toList],[],0,p1 h7,hl,?_,?_,fun _=>rfl⟩
             · simp only [h7,if_true,hput,List.nil_append]
             · simp only [hne,ne_eq,not_false_eq_true,if_true,hput];omega
           · obtain ⟨t,q1,q2⟩:=p2 h7
             refine ⟨rs++[r],[],t,0,q1,hl,?_,?_,fun hd=>q2 (by simpa using hd)⟩
             · simp only [h7,if_false,hput,List.append_nil]
             · simp only [hne,ne_eq,not_false_eq_true,if_true,hput];omega
       · rw [if_pos (by simpa using h0),s2 h0]
         refine ⟨rs,r,[],m,h1,h2,by simp only [h0,if_false];exact h3,by simpa using h4,fun _=>rfl⟩
theorem sync_in {w:Lw} (h:In w):In w.syncs:=by
 obtain ⟨d,seg,put,safe,dead⟩:=w
 obtain ⟨rs,r,t,m,h1,h2,h3,h4,h5⟩:=h
 simp only at h1 h2 h3 h4 h5
 have hput:put.length=rs.flatten.length+r.length:=by rw [h3,List.length_append]
 have hmle:=h1.mle
 unfold Lw.syncs syncM
 simp only
 by_cases hh:(hit (namB seg) d.fs).2=true
 · rw [if_pos hh]
   obtain ⟨s1,s2⟩:=syn_inv h1
   rw [←h2] at s1 s2
   by_cases h0:(syn d (namB seg)).2=0
   · obtain ⟨u1,_,_⟩:=s1 h0
     refine ⟨rs,r,t,r.length,u1,h2,h3,?_,h5⟩
     simp only [h0,true_and]
     split<;>omega
   · rw [s2 h0]
     exact ⟨rs,r,t,m,h1,h2,h3,by simp only [h0,false_and,if_false];exact h4,h5⟩
 · rw [if_neg hh]
   have hr:r=[]:=by
    rcases h1.last with ⟨_,e,_⟩ | e
    · exact e
    · rw [←h2] at e;exact absurd e hh
   subst hr
   have hm:m=0:=Nat.le_zero.1 hmle
   subst hm
   refine ⟨rs,[],t,0,h1,h2,h3,?_,h5⟩
   simp only [true_and]
   split
   · have e0:([]:List Rec).length=0:=rfl
     omega
   · exact h4
theorem clean_in {x:Dk} {rs:List (List Rec)} {us:List Rec} {m safe:Nat} (h:St x.fs rs us [] m) (hs:safe≤rs.flatten.length+us.length) (hw:(hit (namB ((rs.length:Int)+1)) x.fs).1.wt=⟨#[]⟩) :
    In ⟨x,if (hit (namB ((rs.length:Int)+1)) x.fs).2 then (rs.length:Int)+1 else if rs=[] then 1 else (rs.length:Int),rs.flatten++us,safe,false⟩:=by
  cases hh:(hit (namB ((rs.length:Int)+1)) x.fs).2 with
  | true =>
    have hS:St x.fs rs us [] us.length:=by
     refine h.turn h.uniq (fun k _ _=>rfl) h.le h.part (Nat.le_refl _) h.size hh h.text ?_
     have htx:=h.text
     rw [hw] at htx
     rw [List.take_length]
     have e:(hit (namB ((rs.length:Int)+1)) x.fs).1.sf.data.toList=flat us:=by simpa using htx
     rw [e];exact List.prefix_refl _
    exact ⟨rs,us,[],us.length,hS,rfl,rfl,hs,fun _=>rfl⟩
  | false =>
    have hus:us=[]:=by
     rcases h.last with ⟨_,e,_⟩ | e
     · exact e
     · rw [hh] at e;cases e
    subst hus
    simp only [Bool.false_eq_true,if_false]
    by_cases hr:rs=[]
    · subst hr
      rw [if_pos rfl]
      exact ⟨[],[],[],m,h,by simp,rfl,by simp at hs ⊢;omega,fun _=>rfl⟩
    · rw [if_neg hr]
      obtain ⟨a,b,rfl⟩:∃ a b,rs=a++[b]:=⟨rs.dropLast,rs.getLast hr,(List.dropLast_concat_getLast hr).symm⟩
      exact ⟨a,b,[],b.length,h.back hh,by simp,by simp,by simp at hs ⊢;omega,fun _=>rfl⟩
theorem crash_in {w:Lw} (h:In w) (ks:List Int) :
    (recM (crs w.d ks) 1).2.2.2=5 ∨
    ((recM (crs w.d ks) 1).2.2.2=0∧(recM (crs w.d ks) 1).2.1 <+: w.put∧w.safe≤(recM (crs w.d ks) 1).2.1.length ∧
      recM (recM (crs w.d ks) 1).1 1=((recM (crs w.d ks) 1).1,(recM (crs w.d ks) 1).2.1,(recM (crs w.d ks) 1).2.2.1,0) ∧
      In ⟨(recM (crs w.d ks) 1).1,(recM (crs w.d ks) 1).2.2.1,(recM (crs w.d ks) 1).2.1,w.safe,false⟩):=by
  obtain ⟨rs,r,t,m,h1,h2,h3,h4,h5⟩:=h
  obtain ⟨us,q,u1,u2,u3,u4⟩:=crs_inv h1 ks
  obtain ⟨p1,p2⟩:=crs_pow w.d ks
  generalize crs w.d ks=x at u3 u4 p1 p2
  have hpre:rs.flatten++us <+: w.put:=by rw [h3];exact (List.prefix_append_right_inj _).2 u1
  have hsafe:w.safe≤(rs.flatten++us).length:=by rw [List.length_append];omega
  by_cases hq:q=[]
  · subst hq
    have e:=rec_clean u3 u4
    rw [e]
    exact .inr ⟨rfl,hpre,hsafe,e,clean_in u3 (by omega) u4⟩
  · obtain ⟨hh,e⟩:=rec_torn u3 hq
    rw [e]
    rcases cut_inv u3 p1 p2 hh with c | ⟨c1,c2,c3,c4⟩
    · left;rw [if_pos (by rw [c];decide)];exact c
    · rw [if_neg (by rw [c1];decide)]
      generalize (cutM x ((rs.length:Int)+1) ⟨(flat us).toArray⟩).1=y at c2 c3 c4
      have e2:=rec_clean c2 c4
      have i2:=clean_in (safe:=w.safe) c2 (by rw [List.length_append] at hsafe;exact hsafe) c4
      rw [c3] at e2 i2
      exact .inr ⟨rfl,hpre,hsafe,e2,i2⟩
end Wl
end
section
open Dkm Prm Wm Du Wl
namespace Km
theorem comM_bad {x:Ks} {b:Bm.Bt} (h:(comM x b).2≠0):(comM x b).1.s=x.s:=by
 unfold comM at h ⊢
 split
 · rfl
 · split
   · rfl
   · rename_i h1 h2
     rw [if_neg h1,if_neg h2] at h
     unfold comA at h ⊢
     split
     · rfl
     · rename_i h3
       rw [if_neg h3] at h
       unfold comB at h ⊢
       split
       · rfl
       · rename_i h4;rw [if_neg h4] at h;exact absurd rfl h
theorem comM_ok {x:Ks} {b:Bm.Bt} (h:(comM x b).2=0):(Bm.doo x.s b).2=0∧(comM x b).1.s=(Bm.doo x.s b).1:=by
 unfold comM at h ⊢
 split at h
 · cases h
 · rename_i h1
   rw [if_neg h1]
   split at h
   · rename_i h2
     exact absurd (by simpa using h) h2
   · rename_i h2
     rw [if_neg h2]
     refine ⟨by simpa using h2,?_⟩
     unfold comA at h ⊢
     split at h
     · rename_i h3;exact absurd h h3
     · rename_i h3
       rw [if_neg h3]
       unfold comB at h ⊢
       split at h
       · rename_i h4;exact absurd h h4
       · rename_i h4;rw [if_neg h4]
theorem repM_nil (s:Bm.Sta):repM s []=some s:=by rw [repM]
theorem repM_cons (s:Bm.Sta) (r:List UInt8) (rs:List (List UInt8)):repM s (r :: rs)=if (Bm.take r).2≠0 then none else repM (Bm.doo s (Bm.take r).1).1 rs:=by rw [repM]
def repK (r:List UInt8) (t:Bm.Sta):Option Bm.Sta:=if (Bm.take r).2≠0 then none else some (Bm.doo t (Bm.take r).1).1
theorem repM_snoc (r:List UInt8) (l:List (List UInt8)):∀ s:Bm.Sta,repM s (l++[r])=(repM s l).bind (repK r):=by
 induction l with
 | nil =>
   intro s
   rw [List.nil_append,repM_cons,repM_nil,repM_nil,Option.bind_some]
   unfold repK
   generalize Bm.take r=y
   rfl
 | cons a l ih =>
   intro s
   rw [List.cons_append,repM_cons,repM_cons]
   generalize Bm.take a=y
   by_cases h:y.2≠0
   · rw [if_pos h,if_pos h];rfl
   · rw [if_neg h,if_neg h,ih]
theorem rec_take {b:Bm.Bt} (h:Bm.may b=true):Bm.take (recB b).data.toList=(b,0):=by
 have e:(recB b).data.toList=Bm.bytes b:=by unfold recB Bm.bytesM;rw [if_pos h]
 rw [e];exact Bm.take_bytes h
def On (d:Dk):Prop:=d.off=false∧d.fuse<0
theorem appd_six {d:Dk} (h:On d) (nm s:ByteArray) (hu:Uniq d.fs):(appd d nm s).2≠6:=by
 rcases appd_cases d nm s hu with ⟨_,e⟩ | ⟨e,_,_⟩
 · rcases e with ⟨_,e⟩ | ⟨e,_⟩ | e | ⟨e,_⟩
   · rw [h.1] at e;cases e
   · rw [e];decide
   · rw [e];decide
   · rw [e];decide
 · rw [e]
   have:short d.fuse s=false:=by
    have:=h.2
    unfold short
    simp only [decide_eq_false_iff_not];omega
   rw [this];simp
theorem syn_on {d:Dk} (h:On d) (nm:ByteArray) (hu:Uniq d.fs) (hh:(hit nm d.fs).2=true):(syn d nm).2=0:=by
 rcases syn_cases d nm hu with ⟨_,e⟩ | ⟨e,_⟩
 · rcases e with ⟨_,e⟩ | ⟨_,e⟩
   · rw [h.1] at e;cases e
   · rw [hh] at e;cases e
 · exact e
theorem putM_on {d:Dk} (h:On d) (seg:Int) (rec:ByteArray) (hu:Uniq d.fs):On (putM d seg rec).1∧(putM d seg rec).2.2≠6:=by
 unfold putM
 split
 · exact ⟨h,by simp⟩
 · split
   · exact ⟨h,by simp⟩
   · unfold putB putA
     split
     · exact ⟨appd_pow d _ _ h.1 h.2,appd_six h _ _ hu⟩
     · have hs:=syn_pow d (namB seg) h.1 h.2
       have hsu:Uniq (syn d (namB seg)).1.fs:=by
        rcases syn_cases d (namB seg) hu with ⟨e,_⟩ | ⟨_,_,_,e,_⟩
        · rw [e];exact hu
        · exact e
       split
       · refine ⟨hs,?_⟩
         rcases syn_cases d (namB seg) hu with ⟨_,e⟩ | ⟨e,_⟩
         · rcases e with ⟨_,e⟩ | ⟨e,_⟩
           · rw [h.1] at e;cases e
           · rw [e];decide
         · rw [e];decide
       · split
         · exact ⟨hs,by simp⟩
         · exact ⟨appd_pow _ _ _ hs.1 hs.2,appd_six hs _ _ hsu⟩
theorem nam_ne_m {seg:Int} (h:segOk seg):namB seg≠mB:=by
 intro e
 have e2:=congrArg (fun x:ByteArray=>x.data.toList) e
 have e3:nam seg=[109]:=e2
 rw [nam_ok h] at e3
 injection e3 with e4
 exact absurd e4 (by decide)
theorem putM_m (d:Dk) (seg:Int) (rec:ByteArray):hit mB (putM d seg rec).1.fs=hit mB d.fs:=by
 unfold putM
 split
 · rfl
 · rename_i hs
   have hs:segOk seg:=by simpa using hs
   split
   · rfl
   · unfold putB putA
     split
     · exact appd_apart _ (nam_ne_m hs).symm
     · split
       · exact syn_apart _ (nam_ne_m hs).symm
       · split
         · exact syn_apart _ (nam_ne_m hs).symm
         · rename_i h1
           have hs2:segOk (seg+1):=by unfold segOk at hs ⊢;omega
           exact (appd_apart _ (nam_ne_m hs2).symm).trans (syn_apart _ (nam_ne_m hs).symm)
theorem syncM_m (d:Dk) {seg:Int} (hs:segOk seg):hit mB (syncM d seg).1.fs=hit mB d.fs:=by
 unfold syncM
 split
 · exact syn_apart _ (nam_ne_m hs).symm
 · rfl
structure Kn (N:Nat) (x:Ks):Prop where
  log:∃ w:Lw,In w∧w.d=x.d∧w.seg=x.seg∧w.dead=false∧w.safe=w.put.length∧repM ⟨[],[]⟩ w.put=some x.s∧w.put.length≤N
  on:On x.d
  no:(hit mB x.d.fs).2=false
  frm:x.frm=1
  run:x.run=0
  up:x.down=false
theorem In.uniq {w:Lw} (h:In w):Uniq w.d.fs:=by obtain ⟨rs,r,t,m,h1,_⟩:=h;exact h1.uniq
theorem In.segOk {w:Lw} (h:In w):segOk w.seg:=by obtain ⟨rs,r,t,m,h1,h2,_⟩:=h;rw [h2];exact h1.ok
theorem Kn.com {N:Nat} {x:Ks} (h:Kn N x) (b:Bm.Bt):Kn (N+1) (comM x b).1∧(comM x b).1.run=x.run:=by
 obtain ⟨⟨w,hI,hd,hseg,hdead,hsafe,hrep,hput⟩,hon,hno,hfrm,hrun,hup⟩:=h
 unfold comM
 rw [if_neg (by rw [hup];decide)]
 split
 · exact ⟨⟨⟨w,hI,hd,hseg,hdead,hsafe,hrep,by omega⟩,hon,hno,hfrm,hrun,hup⟩,rfl⟩
 · rename_i hdo
   have hdo:(Bm.doo x.s b).2=0:=by simpa using hdo
   obtain ⟨hmay,_⟩:=Bm.doo_ok hdo
   have hu:Uniq x.d.fs:=by rw [←hd];exact In.uniq hI
   obtain ⟨p1,p6⟩:=putM_on hon x.seg (recB b) hu
   have pm:=putM_m x.d x.seg (recB b)
   have hP:=put_in hI (recB b)
   have hPd:(w.puts (recB b)).d=(putM x.d x.seg (recB b)).1∧(w.puts (recB b)).seg=(putM x.d x.seg (recB b)).2.1∧(w.puts (recB b)).put=(if (putM x.d x.seg (recB b)).2.2=0 then w.put++[(recB b).data.toList] else w.put)∧(w.puts (recB b)).safe=w.put.length∧(w.puts (recB b)).dead=false:=by
    unfold Lw.puts
    rw [if_neg (by rw [hdead];decide),hd,hseg]
    refine ⟨rfl,rfl,rfl,?_,decide_eq_false p6⟩
    simp only
    split
    · rfl
    · exact hsafe
   generalize w.puts (recB b)=w1 at hP hPd
   obtain ⟨q1,q2,q3,q4,q5⟩:=hPd
   unfold comA
   split
   · rename_i he
     rw [if_neg he] at q3
     refine ⟨⟨⟨w1,hP,q1,q2,q5,by rw [q4,q3],by rw [q3];exact hrep,by rw [q3];omega⟩,p1,by show (hit mB (putM x.d x.seg (recB b)).1.fs).2=false;rw [pm];exact hno,hfrm,hrun,?_⟩,rfl⟩
     exact decide_eq_false p6
   · rename_i he
     have he:(putM x.d x.seg (recB b)).2.2=0:=by simpa using he
     rw [if_pos he] at q3
     generalize putM x.d x.seg (recB b)=p at p1 pm q1 q2 he
     have hS:=sync_in hP
     have hpu:Uniq p.1.fs:=by rw [←q1];exact In.uniq hP
     have hok:segOk p.2.1:=by rw [←q2];exact In.segOk hP
     have hsm:=syncM_m p.1 hok
     have hs0:(syncM p.1 p.2.1).2=0∧On (syncM p.1 p.2.1).1:=by
      unfold syncM
      split
      · rename_i hh;exact ⟨syn_on p1 _ hpu hh,syn_pow _ _ p1.1 p1.2⟩
      · exact ⟨rfl,p1⟩
     have hSd:w1.syncs.d=(syncM p.1 p.2.1).1∧w1.syncs.seg=p.2.1∧w1.syncs.put=w1.put∧w1.syncs.safe=w1.put.length∧w1.syncs.dead=false:=by
      unfold Lw.syncs
      rw [q1,q2]
      refine ⟨rfl,rfl,rfl,?_,q5⟩
      simp only
      rw [if_pos ⟨hs0.1,q5⟩]
     generalize w1.syncs=w2 at hS hSd
     obtain ⟨r1,r2,r3,r4,r5⟩:=hSd
     unfold comB
     rw [if_neg (by rw [hs0.1];simp)]
     refine ⟨⟨⟨w2,hS,r1,r2,r5,by rw [r4,r3],?_,by rw [r3,q3,List.length_append];simp only [List.length_singleton];omega⟩,hs0.2,by show (hit mB (syncM p.1 p.2.1).1.fs).2=false;rw [hsm,pm];exact hno,hfrm,hrun,hup⟩,rfl⟩
     rw [r3,q3,repM_snoc,hrep,Option.bind_some,repK,rec_take hmay,if_neg (by simp)]
theorem crash_safe {w:Lw} (h:In w) (hsafe:w.safe=w.put.length) (hdead:w.dead=false) (ks:List Int) :
    ∃ seg,recM (crs w.d ks) 1=(crs w.d ks,w.put,seg,0)∧In ⟨crs w.d ks,seg,w.put,w.safe,false⟩:=by
  obtain ⟨rs,r,t,m,h1,h2,h3,h4,h5⟩:=h
  have ht:=h5 hdead
  subst ht
  have hpl:w.put.length=rs.flatten.length+r.length:=by rw [h3,List.length_append]
  have hmr:m=r.length:=by have:=h1.mle;omega
  obtain ⟨us,q,u1,u2,u3,u4⟩:=crs_inv h1 ks
  have hus:us=r:=u1.eq_of_length (by have:=u1.length_le;omega)
  subst hus
  have hq:q=[]:=by
   have htx:=u3.text
   have htx0:=h1.text
   rw [u4] at htx
   rcases hit_crs w.d ks (namB ((rs.length:Int)+1)) with ⟨_,e⟩ | ⟨_,k,e⟩
   · rw [hit_def e] at htx
     have e2:flat us++q=[]:=by rw [←htx];rfl
     exact (List.append_eq_nil_iff.1 e2).2
   · rw [e] at htx
     have l1:=congrArg List.length htx
     have l0:=congrArg List.length htx0
     have l2:((hit (namB ((rs.length:Int)+1)) w.d.fs).1.sf++(hit (namB ((rs.length:Int)+1)) w.d.fs).1.wt.extract 0 k).data.toList.length≤(hit (namB ((rs.length:Int)+1)) w.d.fs).1.sf.data.toList.length+(hit (namB ((rs.length:Int)+1)) w.d.fs).1.wt.data.toList.length:=by
      rw [ByteArray.data_append,Array.toList_append,List.length_append,ByteArray.data_extract]
      simp
      omega
     simp only [List.length_append,List.append_nil] at l1 l0
     have:q.length=0:=by
      omega
     exact List.eq_nil_of_length_eq_zero this
  subst hq
  have e:=rec_clean u3 u4
  have i2:=clean_in (safe:=w.safe) u3 (by omega) u4
  rw [h3]
  exact ⟨_,e,i2⟩
theorem Kn.crash {N:Nat} {x:Ks} (h:Kn N x) (ks:List Int):(crsM x ks).2=0∧Kn N (crsM x ks).1∧(crsM x ks).1.s=x.s∧(recM (crs x.d ks) 1).2.1.length≤N∧(redd mB (crs x.d ks).fs).2≠0:=by
 obtain ⟨⟨w,hI,hd,hseg,hdead,hsafe,hrep,hput⟩,hon,hno,hfrm,hrun,hup⟩:=h
 obtain ⟨seg,e,hI2⟩:=crash_safe hI hsafe hdead ks
 rw [hd] at e hI2
 have hm:(hit mB (crs x.d ks).fs).2=false:=by
  rcases hit_crs x.d ks mB with ⟨_,e⟩ | ⟨e,_⟩
  · exact e
  · rw [hno] at e;cases e
 have hb:begM (crs x.d ks).fs=(1,0,0):=by
  unfold begM redd
  rw [hm];rfl
 have ho:crsM x ks=(⟨crs x.d ks,1,seg,0,x.s,false⟩,0):=by
  unfold crsM openM opnA
  rw [hb]
  simp only [ne_eq,not_true_eq_false,if_false]
  unfold opnB loadS
  simp only [if_true,ne_eq,not_true_eq_false,if_false]
  unfold opnC
  rw [e]
  simp only [ne_eq,not_true_eq_false,if_false]
  rw [hrep];rfl
 rw [ho]
 exact ⟨rfl,⟨⟨_,hI2,rfl,rfl,rfl,hsafe,hrep,hput⟩,crs_pow _ _,hm,rfl,rfl,rfl⟩,rfl,by rw [e];exact hput,by unfold redd;rw [hm];simp⟩
theorem open_new (room:Int):openM ⟨[],room,-1,false⟩=(⟨⟨[],room,-1,false⟩,1,1,0,⟨[],[]⟩,false⟩,0):=by
 have e:=rec_clean (x:=⟨[],room,-1,false⟩) (rs:=[]) (us:=[]) (m:=0) (by obtain ⟨rs,r,t,m,h1,h2,h3,h4,h5⟩:=new_in room;exact (by
  have e1:rs=[]:=by
   have:(1:Int)=(rs.length:Int)+1:=h2
   exact List.eq_nil_of_length_eq_zero (by omega)
  subst e1
  have e2:r=[]:=by simpa using h3.symm
  subst e2
  have e3:=h5 rfl
  subst e3
  have e4:m=0:=Nat.le_zero.1 h1.mle
  subst e4
  exact h1)) rfl
 have hb:begM (⟨[],room,-1,false⟩:Dk).fs=(1,0,0):=rfl
 unfold openM opnA
 rw [hb]
 simp only [ne_eq,not_true_eq_false,if_false]
 unfold opnB loadS
 simp only [if_true,ne_eq,not_true_eq_false,if_false]
 unfold opnC
 rw [e]
 rfl
theorem open_kn (room:Int):Kn 0 (openM ⟨[],room,-1,false⟩).1:=by
 rw [open_new]
 exact ⟨⟨_,new_in room,rfl,rfl,rfl,rfl,rfl,Nat.le_refl _⟩,⟨rfl,by show (-1:Int)<0;omega⟩,rfl,rfl,rfl,rfl⟩
theorem Bnd.crsK {B:Nat} {d:Dk} (h:Bnd B d) (ks:List Int):Bnd B (Dkm.crs d ks):=
  ⟨crs_sum d ks h.sum,by rw [crs_len];exact h.few,croom_in ks d.fs d.room h.room _,⟨by show (-9223372036854775808:Int)≤-1;decide,by show (-1:Int)≤9223372036854775807;decide⟩⟩
theorem Bnd.com {B:Nat} {x:Ks} (h:Bnd B x.d) (hB:65536≤B) (b:Bm.Bt):Bnd B (comM x b).1.d:=by
 unfold comM
 split
 · exact h
 · split
   · exact h
   · have h1:=h.putM hB x.seg (recB b)
     unfold comA
     split
     · exact h1
     · have h2:=h1.syncM (putM x.d x.seg (recB b)).2.1
       unfold comB
       split
       · exact h2
       · exact h2
end Km
end
section
open Go.RowKit Go.Extern.Stop Go.Stop Go.Extern
abbrev fltV (a:Addr) (e:Int):Value:=.iface 141 (.agg #[.iface 326 (.pointer (some a)),.int .i64 e])
abbrev fltW (T:TypeId) (v:Value) (e:Int):Value:=.iface 141 (.agg #[.iface T v,.int .i64 e])
theorem kas_nil (t:Value) (w:World) :
    Calls Tryz.prog 76 #[.nilIface,t] w fun e w'=>e=.returned (.bool false)∧w'=w:=by
  go_enter Tryz.func76,Tryz.ntmps76
  go_wp2
  go_ret
  exact ⟨rfl,rfl⟩
theorem kvOfP (t:Addr) (w:World):(ReflectliteValue.unpack (.iface 143 (.pointer (some t)))).run Tryz.prog w
    = .ok (.agg #[.pointer (some ⟨8, 143,none⟩),.pointer (some ⟨w.heap.size,0,none⟩),.int .u64 150]) (w.alloc (.cells #[.pointer (some t)] 143)):=by kernel_rfl
theorem kvTyP (a:Addr) (w:World):(ReflectliteValue.methodAny (ReflectliteValue.valueError "reflectlite.Value.Type" 0) (fun t _ _ _=>ReflectliteType.toType t) #[.agg #[.pointer (some ⟨8, 143,none⟩),.pointer (some a),.int .u64 150]]).run Tryz.prog w
    = .ok (.iface 234 (.agg #[.pointer (some ⟨8, 143,none⟩)])) w:=by kernel_rfl
theorem kvMeKind (h:Value) (w:World):(Go.method 459 234 (.agg #[h]) "Kind").run Tryz.prog w=.ok (270,h) w:=by kernel_rfl
theorem kvKindP (w:World):((ReflectliteType.abiMethod fun t=>(fun a:Nat=>Value.int IntKind.u8 (a:Int)) <$> Rtype.kind t) #[.pointer (some ⟨8, 143,none⟩)]).run Tryz.prog w=.ok (.int .u8 22) w:=by kernel_rfl
theorem kvKindF (w:World):((ReflectliteType.abiMethod fun t=>(fun a:Nat=>Value.int IntKind.u8 (a:Int)) <$> Rtype.kind t) #[.pointer (some ⟨8, 141,none⟩)]).run Tryz.prog w=.ok (.int .u8 25) w:=by kernel_rfl
theorem kvRlm (z:Sem Value) (f:TypeId→Addr→Nat→Nat→Sem Value) (v:Value) :
    ReflectliteValue.method z f #[v]=(do match ←ReflectliteValue.parts v with | none=>z | some (t,a,fl)=>f t a fl (fl % 32)):=rfl
theorem kvPartsP (a:Addr) (w:World):(ReflectliteValue.parts (.agg #[.pointer (some ⟨8, 143,none⟩),.pointer (some a),.int .u64 150])).run Tryz.prog w=.ok (some (143,a,150)) w:=by kernel_rfl
theorem kvIsNil (a p:Addr) (W:World) (ha:W.cell? a=some (.pointer (some p))) :
    (ReflectliteValue.method (ReflectliteValue.valueError "reflectlite.Value.IsNil" 0) ReflectliteValue.isNil #[.agg #[.pointer (some ⟨8, 143,none⟩),.pointer (some a),.int .u64 150]]).run Tryz.prog W=.ok (.bool false) W:=by
  rw [kvRlm]
  simp only [Sem.run_bind,kvPartsP,Result.andThen]
  simp [ReflectliteValue.isNil,loadVar,isAgg,underlying,Tryz.underlying143,ha,Result.andThen]
theorem kvMeElem (h:Value) (w:World):(Go.method 459 234 (.agg #[h]) "Elem").run Tryz.prog w=.ok (283,.agg #[h]) w:=by kernel_rfl
theorem kvMeImpl (h:Value) (w:World):(Go.method 459 234 (.agg #[h]) "Implements").run Tryz.prog w=.ok (284,.agg #[h]) w:=by kernel_rfl
theorem kvMeAssi (h:Value) (w:World):(Go.method 459 234 (.agg #[h]) "AssignableTo").run Tryz.prog w=.ok (281,.agg #[h]) w:=by kernel_rfl
theorem kvElemP (w:World):(ReflectliteType.method ReflectliteType.elem #[.agg #[.pointer (some ⟨8, 143,none⟩)]]).run Tryz.prog w=.ok (.iface 234 (.agg #[.pointer (some ⟨8, 141,none⟩)])) w:=by kernel_rfl
theorem kvImplF (w:World):(ReflectliteType.relation "Implements" ReflectliteType.implements_ #[.agg #[.pointer (some ⟨8, 141,none⟩)],.iface 234 (.agg #[.pointer (some ⟨8, 85,none⟩)])]).run Tryz.prog w=.ok (.bool true) w:=by kernel_rfl
theorem kvTypeOfF (v:Value) (w:World):(ReflectliteType.typeOf #[.iface 141 v]).run Tryz.prog w=.ok (.iface 234 (.agg #[.pointer (some ⟨8, 141,none⟩)])) w:=by kernel_rfl
theorem kvAssiF (w:World):(ReflectliteType.relation "AssignableTo" ReflectliteType.assignableTo #[.agg #[.pointer (some ⟨8, 141,none⟩)],.iface 234 (.agg #[.pointer (some ⟨8, 141,none⟩)])]).run Tryz.prog w=.ok (.bool true) w:=by kernel_rfl
theorem kvOfF (T:TypeId) (v:Value) (e:Int) (w:World):(ReflectliteValue.unpack (.iface 141 (.agg #[.iface T v,.int .i64 e]))).run Tryz.prog w
    = .ok (.agg #[.pointer (some ⟨8, 141,none⟩),.pointer (some ⟨w.heap.size,0,none⟩),.int .u64 153]) (w.alloc (.cells #[.iface T v,.int .i64 e] 141)):=by kernel_rfl
theorem kvElemOfP (w:World):(Rtype.elem? 143).run Tryz.prog w=.ok (some 141) w:=by kernel_rfl
theorem kvMkF (p:Addr) (w:World):(ReflectliteValue.mk 141 p ReflectliteValue.flagAddr).run Tryz.prog w=.ok (.agg #[.pointer (some ⟨8, 141,none⟩),.pointer (some p),.int .u64 409]) w:=by kernel_rfl
theorem kvElemV (a p:Addr) (W:World) (ha:W.cell? a=some (.pointer (some p))) :
    (ReflectliteValue.method (ReflectliteValue.valueError "reflectlite.Value.Elem" 0) ReflectliteValue.elem #[.agg #[.pointer (some ⟨8, 143,none⟩),.pointer (some a),.int .u64 150]]).run Tryz.prog W
      = .ok (.agg #[.pointer (some ⟨8, 141,none⟩),.pointer (some p),.int .u64 409]) W:=by
  rw [kvRlm]
  simp only [Sem.run_bind,kvPartsP,Result.andThen]
  simp [ReflectliteValue.elem,loadVar,isAgg,underlying,Tryz.underlying143,ha,Result.andThen,kvElemOfP,kvMkF]
theorem kvRls (v x:Value):ReflectliteValue.set #[v,x]=(do
    let (some (dst,a,fl),some (src,b,_)):=(←ReflectliteValue.parts v,←ReflectliteValue.parts x)
      | unsupported (.noEntry "extern/(internal/reflectlite.Value).Set.zeroValue")
    if fl / ReflectliteValue.flagAddr % 2 == 0 then unsupported (.noEntry "extern/(internal/reflectlite.Value).Set.unaddressable")
    let val ←loadVar src b
    if ←Rtype.directlyAssignable dst src then storeVar dst a val
    else if ←Rtype.implements dst src then
      if (←Rtype.kind src) == 20 then
        match val with
        | .nilIface=>unsupported (.noEntry "extern/reflectlite: a nil value of one interface type handed on as a value of another")
        | _=>storeVar dst a val
      else storeVar dst a (.iface src val)
    else panicString ("reflectlite.Set: value of type " ++ (←Rtype.spelt src) ++ " is not assignable to type " ++ (←Rtype.spelt dst))
    pure (.tuple #[])):=rfl
theorem kvPartsA (a:Addr) (w:World):(ReflectliteValue.parts (.agg #[.pointer (some ⟨8, 141,none⟩),.pointer (some a),.int .u64 409])).run Tryz.prog w=.ok (some (141,a,409)) w:=by kernel_rfl
theorem kvPartsB (a:Addr) (w:World):(ReflectliteValue.parts (.agg #[.pointer (some ⟨8, 141,none⟩),.pointer (some a),.int .u64 153])).run Tryz.prog w=.ok (some (141,a,153)) w:=by kernel_rfl
theorem kvDirect (w:World):(Rtype.directlyAssignable 141 141).run Tryz.prog w=.ok true w:=by kernel_rfl
theorem kvSizeF (w:World):(sizeOf 141).run Tryz.prog w=.ok 2 w:=by kernel_rfl
theorem kvLoadF {b:Nat} {T:TypeId} {v:Value} {e:Int} {W:World} (h:Bx W b [.iface T v,.int .i64 e]):(loadVar 141 ⟨b,0,none⟩).run Tryz.prog W=.ok (.agg #[.iface T v,.int .i64 e]) W:=by
 have h0:=(h 0 _ rfl).1
 have h1:=(h 1 _ rfl).1
 simp [loadVar,isAgg,underlying,Tryz.underlying141,kvSizeF,loadCells,loadCellsFrom,Addr.add,h0,h1,Result.andThen]
theorem kvStoreF {b:Nat} {o0 o1:Value} (T:TypeId) (v:Value) (e:Int) {W:World} (h:Bx W b [o0,o1]):(storeVar 141 ⟨b,0,none⟩ (.agg #[.iface T v,.int .i64 e])).run Tryz.prog W=.ok () ((W.setCell ⟨b,0,none⟩ (.iface T v)).setCell ⟨b,1,none⟩ (.int .i64 e)):=by
 have h0:=h 0 _ rfl
 have h1:=(h.set (k:=0) (by simp) (.iface T v)) 1 _ rfl
 have e0:(store (Addr.add ⟨b,0,none⟩ 0) (.iface T v)).run Tryz.prog W=.ok () (W.setCell ⟨b,0,none⟩ (.iface T v)):=by
  rw [run_store Tryz.prog W _ _ _ (by rfl)]
  simp [Addr.add,h0.1,h0.2]
 have e1:(store (Addr.add ⟨b,0,none⟩ 1) (.int .i64 e)).run Tryz.prog (W.setCell ⟨b,0,none⟩ (.iface T v))=.ok () ((W.setCell ⟨b,0,none⟩ (.iface T v)).setCell ⟨b,1,none⟩ (.int .i64 e)):=by
  rw [run_store Tryz.prog _ _ _ _ (by rfl)]
  simp [Addr.add,h1.1,h1.2]
 simp [storeVar,kvSizeF,Value.cells,storeCells,e0,e1,Result.andThen]
theorem kvSet {b t:Nat} {o0 o1:Value} (T:TypeId) (v:Value) (e:Int) {W:World} (hb:Bx W b [.iface T v,.int .i64 e]) (ht:Bx W t [o0,o1]) :
    (ReflectliteValue.set #[.agg #[.pointer (some ⟨8, 141,none⟩),.pointer (some ⟨t,0,none⟩),.int .u64 409],.agg #[.pointer (some ⟨8, 141,none⟩),.pointer (some ⟨b,0,none⟩),.int .u64 153]]).run Tryz.prog W
      = .ok (.tuple #[]) ((W.setCell ⟨t,0,none⟩ (.iface T v)).setCell ⟨t,1,none⟩ (.int .i64 e)):=by
  rw [kvRls]
  simp only [Sem.run_bind,kvPartsA,kvPartsB,Result.andThen]
  simp [ReflectliteValue.flagAddr,kvLoadF hb,kvDirect,kvStoreF T v e ht,Result.andThen]
def ErrT (w:World):Prop:=w.cell? ⟨2,0,none⟩=some (.iface 234 (.agg #[.pointer (some ⟨8, 85,none⟩)]))
set_option maxHeartbeats 8000000 in
theorem kas_flt (T:TypeId) (v:Value) (e:Int) (t:Nat) (o0 o1:Value) (w:World) (hg:ErrT w) (hb:Bx w t [o0,o1]) :
    Calls Tryz.prog 76 #[fltW T v e,.iface 143 (.pointer (some ⟨t,0,none⟩))] w fun ev w'=>ev=.returned (.bool true)∧∃ w1,Q w w1∧w'=(w1.setCell ⟨t,0,none⟩ (.iface T v)).setCell ⟨t,1,none⟩ (.int .i64 e):=by
  have xValueOf:=@run_callFunc_extern Tryz.prog 127 _ (fun args=>ReflectliteValue.unpack (args.getD 0 (.tuple #[]))) Tryz.func127 (by kernel_rfl) (by kernel_rfl) (by kernel_rfl) (by kernel_rfl)
  have xType:=@run_callFunc_extern Tryz.prog 128 _ (ReflectliteValue.methodAny (ReflectliteValue.valueError "reflectlite.Value.Type" 0) (fun t _ _ _=>ReflectliteType.toType t)) Tryz.func128 (by kernel_rfl) (by kernel_rfl) (by kernel_rfl) (by kernel_rfl)
  have xIsNil:=@run_callFunc_extern Tryz.prog 129 _ (ReflectliteValue.method (ReflectliteValue.valueError "reflectlite.Value.IsNil" 0) ReflectliteValue.isNil) Tryz.func129 (by kernel_rfl) (by kernel_rfl) (by kernel_rfl) (by kernel_rfl)
  have xKind:=@run_callFunc_extern Tryz.prog 270 _ (ReflectliteType.abiMethod fun t=>do pure (.int .u8 (←Rtype.kind t))) Tryz.func270 (by kernel_rfl) (by kernel_rfl) (by kernel_rfl) (by kernel_rfl)
  have xElem:=@run_callFunc_extern Tryz.prog 283 _ (ReflectliteType.method ReflectliteType.elem) Tryz.func283 (by kernel_rfl) (by kernel_rfl) (by kernel_rfl) (by kernel_rfl)
  have xImpl:=@run_callFunc_extern Tryz.prog 284 _ (ReflectliteType.relation "Implements" ReflectliteType.implements_) Tryz.func284 (by kernel_rfl) (by kernel_rfl) (by kernel_rfl) (by kernel_rfl)
  have xTypeOf:=@run_callFunc_extern Tryz.prog 137 _ ReflectliteType.typeOf Tryz.func137 (by kernel_rfl) (by kernel_rfl) (by kernel_rfl) (by kernel_rfl)
  have xAssi:=@run_callFunc_extern Tryz.prog 281 _ (ReflectliteType.relation "AssignableTo" ReflectliteType.assignableTo) Tryz.func281 (by kernel_rfl) (by kernel_rfl) (by kernel_rfl) (by kernel_rfl)
  have xVElem:=@run_callFunc_extern Tryz.prog 165 _ (ReflectliteValue.method (ReflectliteValue.valueError "reflectlite.Value.Elem" 0) ReflectliteValue.elem) Tryz.func165 (by kernel_rfl) (by kernel_rfl) (by kernel_rfl) (by kernel_rfl)
  have xSet:=@run_callFunc_extern Tryz.prog 166 _ ReflectliteValue.set Tryz.func166 (by kernel_rfl) (by kernel_rfl) (by kernel_rfl) (by kernel_rfl)
  have tO:=kvTypeOfF
  have mA:=kvMeAssi
  have aF:=kvAssiF
  have vF:=kvOfF
  have f6:=kvOfP
  have f7:=kvTyP
  have mK:=kvMeKind
  have mE:=kvMeElem
  have mI:=kvMeImpl
  have kP:=kvKindP
  have kF:=kvKindF
  have eP:=kvElemP
  have iF:=kvImplF
  have n8:=kvIsNil ⟨w.heap.size,0,none⟩ ⟨t,0,none⟩ ((w.alloc (.cells #[.pointer (some ⟨t,0,none⟩)] 143)).alloc (.cells #[.pointer (some ⟨8, 143,none⟩),.pointer (some ⟨w.heap.size,0,none⟩),.int .u64 150] 190)) (by simp)
  have hlt:2 < w.heap.size:=block_lt_of_cell hg
  have htl:t<w.heap.size:=hb.lt
  have hg2:((w.alloc (.cells #[.pointer (some ⟨t,0,none⟩)] 143)).alloc (.cells #[.pointer (some ⟨8, 143,none⟩),.pointer (some ⟨w.heap.size,0,none⟩),.int .u64 150] 190)).cell? ⟨2,0,none⟩=some (.iface 234 (.agg #[.pointer (some ⟨8, 85,none⟩)])):=by
   rw [World.cell?_alloc_lt _ _ ⟨2,0,none⟩ (by simp;omega),World.cell?_alloc_lt _ _ ⟨2,0,none⟩ hlt];exact hg
  have el:=kvElemV ⟨w.heap.size,0,none⟩ ⟨t,0,none⟩ (((w.alloc (.cells #[.pointer (some ⟨t,0,none⟩)] 143)).alloc (.cells #[.pointer (some ⟨8, 143,none⟩),.pointer (some ⟨w.heap.size,0,none⟩),.int .u64 150] 190)).alloc (.cells #[.pointer (some ⟨8, 143,none⟩),.pointer (some ⟨w.heap.size,0,none⟩),.int .u64 150] 190)) (by rw [World.cell?_alloc_lt _ _ ⟨w.heap.size,0,none⟩ (by simp;omega)];simp)
  have st:=kvSet (b:=w.heap.size+1+1+1) (t:=t) T v e (W:=(((w.alloc (.cells #[.pointer (some ⟨t,0,none⟩)] 143)).alloc (.cells #[.pointer (some ⟨8, 143,none⟩),.pointer (some ⟨w.heap.size,0,none⟩),.int .u64 150] 190)).alloc (.cells #[.pointer (some ⟨8, 143,none⟩),.pointer (some ⟨w.heap.size,0,none⟩),.int .u64 150] 190)).alloc (.cells #[.iface T v,.int .i64 e] 141))
    (by have:=Bx.new (((w.alloc (.cells #[.pointer (some ⟨t,0,none⟩)] 143)).alloc (.cells #[.pointer (some ⟨8, 143,none⟩),.pointer (some ⟨w.heap.size,0,none⟩),.int .u64 150] 190)).alloc (.cells #[.pointer (some ⟨8, 143,none⟩),.pointer (some ⟨w.heap.size,0,none⟩),.int .u64 150] 190)) [.iface T v,.int .i64 e] 141;simpa using this)
    ((((hb.alloc _).alloc _).alloc _).alloc _)
  have QQ:=Lib.hid ((((Q.refl w).alloc (.cells #[.pointer (some ⟨t,0,none⟩)] 143)).alloc (.cells #[.pointer (some ⟨8, 143,none⟩),.pointer (some ⟨w.heap.size,0,none⟩),.int .u64 150] 190)).alloc (.cells #[.pointer (some ⟨8, 143,none⟩),.pointer (some ⟨w.heap.size,0,none⟩),.int .u64 150] 190) |>.alloc (.cells #[.iface T v,.int .i64 e] 141))
  clear hb
  go_enter Tryz.func76,Tryz.ntmps76
  go_wp2
  refine wp_loop_rounds 1 ?_
  rw [rounds_succ]
  go_wp2
  go_ret
  exact ⟨rfl,_,QQ.out,rfl⟩
end
section
open Go.RowKit
def Tab (w:World):Prop:=Lib.TabIs Tryz.prog w "internal/strconv.uint64pow10" .u64 Lib.pow10Tab
theorem Tab.q {w w':World} (h:Tab w) (hq:Q w w'):Tab w':=Lib.tabBelow_of_tabIs h w' hq.below
end
end Go.Proofs.YtajidconlmhjfaaGreatDoor
